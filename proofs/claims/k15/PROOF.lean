import PyProof.Rows.All
import Wide.All
import OpenK.AllK
import Wide.FinOn
import Lean
import PyProof.EqAt
import PyProof.EqKinds
import PyProof.TupleCall
import PySem.Challenge.RW_fivecups_k15_texts_of_no_dance
set_option Elab.async false
set_option linter.all false
set_option maxRecDepth 100000
namespace L2
open PySem PySem.Spec PyProof.Rows
abbrev Key:=Sum Int Str
def keyIs:Key->Value->Bool
 | .inl k,v=>Value.isInt k v
 | .inr x,v=>Value.isStrOf x v
def keyH(w:World):Key->Int
 | .inl k=>hashInt k
 | .inr x=>hashStr w x
theorem zAI:∀ {k:Key} {v:Value},keyIs k v=true->(∃ i t,k=Sum.inl i/\v=Value.int i t)\/(∃ x t,k=Sum.inr x/\v=Value.str x t)
 | .inl i,v,h=>by
  obtain⟨t,e⟩:=Value.isInt_shape (k:=i) (v:=v) h
  exact .inl ⟨i,t,rfl,e⟩
 | .inr x,v,h=>by
  obtain⟨t,e⟩:=Value.isStrOf_shape (x:=x) (v:=v) h
  exact .inr ⟨x,t,rfl,e⟩
theorem zJJ(a b:Int):decide ((Sum.inl a:Key)=Sum.inl b)=(a == b):=by
 by_cases e:a=b
 ·subst e; simp
 ·have h:¬ (Sum.inl a:Key)=Sum.inl b:=fun q=>e (Sum.inl.inj q)
  rw[decide_eq_false h]
  exact (beq_eq_false_iff_ne.mpr e).symm
theorem zJt(a b:Str):decide ((Sum.inr a:Key)=Sum.inr b)=decide (a=b):=by
 by_cases e:a=b
 ·subst e; simp
 ·have h:¬ (Sum.inr a:Key)=Sum.inr b:=fun q=>e (Sum.inr.inj q)
  rw[decide_eq_false h,decide_eq_false e]
theorem zJx(a:Int)(b:Str):decide ((Sum.inl a:Key)=Sum.inr b)=false:=decide_eq_false (fun q=>nomatch q)
theorem zJw(a:Str)(b:Int):decide ((Sum.inr a:Key)=Sum.inl b)=false:=decide_eq_false (fun q=>nomatch q)
def mixKind(prog:Program)(w:World):PySem.KeyKind prog w Key where
 is:=keyIs
 hash:=keyH w
 inj:=fun v a b ha hb=>by
  rcases zAI ha with ⟨i,t,rfl,rfl⟩ | ⟨x,t,rfl,rfl⟩
  ·rcases zAI hb with ⟨j,u,rfl,e⟩ | ⟨y,u,rfl,e⟩
   ·injection e with e1 _; rw[e1]
   ·exact nomatch e
  ·rcases zAI hb with ⟨j,u,rfl,e⟩ | ⟨y,u,rfl,e⟩
   ·exact nomatch e
   ·injection e with e1 _; rw[e1]
 byValue:=fun k v h=>by
  rcases zAI h with ⟨i,t,rfl,rfl⟩ | ⟨x,t,rfl,rfl⟩ <;> rfl
 pyHash:=fun hv h=>by
  rcases zAI hv with ⟨i,t,rfl,rfl⟩ | ⟨x,t,rfl,rfl⟩
  ·exact wpAny_pyHash_int h
  ·exact wpAny_pyHash_str h
 eqBool:=fun hu hv h=>by
  rcases zAI hu with ⟨i,t,rfl,rfl⟩ | ⟨x,t,rfl,rfl⟩
  ·rcases zAI hv with ⟨j,u,rfl,rfl⟩ | ⟨y,u,rfl,rfl⟩
   ·rw[zJJ]at h; exact wpAny_eqBool_int h
   ·rw[zJx]at h; exact SeqAt.EqAt.int_str i t y u _ _ _ _ h
  ·rcases zAI hv with ⟨j,u,rfl,rfl⟩ | ⟨y,u,rfl,rfl⟩
   ·rw[zJw]at h; exact SeqAt.EqAt.str_int x t j u _ _ _ _ h
   ·rw[zJt]at h; exact wpAny_eqBool_str h
 «strs»:=fun k x t v h=>by
  rcases zAI h with ⟨i,u,rfl,e⟩ | ⟨y,u,rfl,e⟩
  ·exact nomatch e
  ·injection e with e1 _
   subst e1
   cases v <;> rfl
inductive V where
 | non | bl (b:Bool) | int (i:Int) | str (x:Str) | byt (b:Array UInt8) | flt (b:UInt64) | ref (a:Addr) | ty (n:String)
 deriving DecidableEq
def RelV:V->Value->Prop
 | .non,u=>u=Value.none
 | .bl b,u=>u=Value.bool b
 | .int i,u=>∃ t,u=Value.int i t
 | .str x,u=>∃ t,u=Value.str x t
 | .byt b,u=>∃ t,u=Value.bytes b t
 | .flt b,u=>∃ t,u=Value.float b t
 | .ref a,u=>u=Value.ref a
 | .ty n,u=>u=Value.type n
abbrev Vals:List V->List Value->Prop:=Paired RelV
theorem Vals.length{xs:List V}{us:List Value}(r:Vals xs us):xs.length=us.length:=Paired.length r
theorem Vals.get:∀ {xs:List V} {us:List Value} {i:Nat} {x:V},Vals xs us->xs[i]?=some x->∃ u,us[i]?=some u/\RelV x u
 | _,_,_,_,.nil,e=>by simp at e
 | _,_,0,_,.cons r _,e=>by simp at e; subst e; exact⟨_,rfl,r⟩
 | _,_,i+1,x,.cons _ t,e=>by
  obtain⟨u,h1,h2⟩:=Vals.get (i:=i) (x:=x) t (by simpa using e)
  exact⟨u,by simpa using h1,h2⟩
theorem Vals.set{x:V}{u:Value}(r:RelV x u):∀ {xs:List V} {us:List Value} (i:Nat),Vals xs us->Vals (xs.set i x) (us.set i u)
 | _,_,_,.nil=>.nil
 | _,_,0,.cons _ t=>.cons r t
 | _,_,i+1,.cons q t=>.cons q (Vals.set r i t)
theorem Vals.append:∀ {xs ys:List V} {us ws:List Value},Vals xs us->Vals ys ws->Vals (xs++ys) (us++ws)
 | _,_,_,_,.nil,s=>s
 | _,_,_,_,.cons r t,s=>.cons r (Vals.append t s)
theorem Vals.take:∀ {xs:List V} {us:List Value} (n:Nat),Vals xs us->Vals (xs.take n) (us.take n)
 | _,_,0,_=>.nil
 | _,_,_+1,.nil=>.nil
 | _,_,n+1,.cons r t=>.cons r (Vals.take n t)
theorem Vals.drop:∀ {xs:List V} {us:List Value} (n:Nat),Vals xs us->Vals (xs.drop n) (us.drop n)
 | _,_,0,r=>r
 | _,_,_+1,.nil=>.nil
 | _,_,n+1,.cons _ t=>Vals.drop n t
def RelO:Option V->Option Value->Prop
 | some v,some u=>RelV v u
 | none,none=>True
 | _,_=>False
def KV{κ:Type}:List (κ×V)->List (κ×Value)->Prop:=Paired fun (p:κ×V) (q:κ×Value)=>p.1=q.1/\RelV p.2 q.2
def kV:Key->V
 | .inl i=>.int i
 | .inr x=>.str x
inductive HO where
 | lst (xs:List V)
 | tup (xs:List V)
 | dK (kvs:List (Key×V)) | dT (kvs:List (List Key×V))
 | set (S:Int->Bool) (n:Nat)
 | ins (C dx:Addr) (fs:List (Str×V))
 | own (x:Addr)
 | xd (fs:List (Str×V))
 | met (f x:Addr)
 | rng (lo hi:Int)
 | frz (o:Obj) (u:HO)
 | tbl (ps:Array Value)
 | ext (φ:Heap->Prop)
abbrev Hp:=Addr->Option HO
def upd(H:Hp)(a:Addr)(o:HO):Hp:=fun b=>if b=a then some o else H b
theorem zAF{H:Hp}{a:Addr}{o:HO}:upd H a o a=some o:=by unfold upd; rw[if_pos rfl]
theorem zAB{H:Hp}{a b:Addr}{o:HO}(h:b≠a):upd H a o b=H b:=by unfold upd; rw[if_neg h]
theorem zAC{H:Hp}{a b:Addr}{o:HO}(h:H a=some o)(h':H b=none):a≠b:=by
 intro e; subst e; rw[h]at h'; cases h'
def TupD(h:Heap)(a:Addr)(items:Array Value):Prop:=∃ o,h.get? a=some o/\o.cls=.type "tuple"/\(∃ n,o.data=.seq items n)/\o.dict=none
theorem TupD.tup{h:Heap}{a:Addr}{items:Array Value}(x:TupD h a items):IsTup h a items:=let ⟨o,e,c,d,_⟩:=x; ⟨o,e,c,d⟩
theorem TupD.lt{h:Heap}{a:Addr}{items:Array Value}(x:TupD h a items):a < h.objs.size:=let ⟨_,e,_⟩:=x; Heap.lt_size e
theorem TupD.new(h:Heap)(items:Array Value):TupD (h.push { cls:=.type "tuple",data:=.seq items }) h.objs.size items:=⟨_,Heap.get?_push_size _ rfl,rfl,⟨_,rfl⟩,rfl⟩
section
variable (P:Program)(w:World)
def ObjOk(H:Hp)(h:Heap)(a:Addr):HO->Prop
 | .lst xs=>xs.length<=sizeLine/\∃ (its:List Value) (n:Nat),Vals xs its/\h.get? a=some { cls:=.type "list",data:=.seq its.toArray n }
 | .tup xs=>xs.length<=sizeLine/\∃ its:List Value,Vals xs its/\TupD h a its.toArray
 | .dK kvs=>kvs.length<=sizeLine/\(a == sysModules)=false/\∃ vs,KV kvs vs/\h.DictOf (mixKind P w) a vs
 | .dT kvs=>kvs.length<=sizeLine/\(a == sysModules)=false/\∃ xs:List (List Key×Addr×Value),
   Paired (fun (p:List Key×V) (q:List Key×Addr×Value)=>p.1=q.1/\H q.2.1=some (.tup (p.1.map kV))/\RelV p.2 q.2.2) kvs xs /\
   ∃ o es ep,h.get? a=some o/\o.ExactDict/\o.data=.dict es ep/\es.toList=xs.map (entryOfKey (tupleKind (mixKind P w)))/\(xs.map (·.1)).Nodup
 | .set S n=>h.SetOf (intKind P w) a S n
 | .ins C dx fs=>H dx=some (.own a)/\fs.length<=1000/\dx≠a/\h.get? a=some (PySem.W.instObj C dx) /\
   ∃ mA,h.Ns1 dx mA/\(∀ f,RelO (fs.lookup f) (mA f))/\PySem.Within mA (fs.map (·.1))
 | .own _=>∃ o,h.get? a=some o
 | .xd fs=>∃ mA,h.Ns1 a mA/\∀ f,RelO (fs.lookup f) (mA f)
 | .rng lo hi=>∃ t u v,h.get? a=some { cls:=.type "range",data:=.fields #[.int lo t,.int hi u,.int 1 v] }
 | .frz o u=>h.get? a=some o/\ObjOk H h a u
 | .tbl ps=>h.get? a=some { cls:=.none,data:=.fields ps }
 | .met f x=>h.get? a=some (PySem.W.methodObj (.ref f) (.ref x))
 | .ext φ=>φ h/\(∃ o,h.get? a=some o)/\∀ h1 h2:Heap,φ h1->(∀ o,h1.get? a=some o->h2.get? a=some o)->φ h2
def HOk(H:Hp)(h:Heap):Prop:=∀ a o,H a=some o->ObjOk P w H h a o
end
section
variable {P:Program}{w:World}{H H':Hp}{h h':Heap}{a:Addr}{o:HO}
theorem ObjOk.lt(x:ObjOk P w H h a o):a < h.objs.size:=by
 cases o with
 | lst xs=>obtain⟨_,_,_,_,e⟩:=x; exact Heap.lt_size e
 | tup xs=>obtain⟨_,_,_,p⟩:=x; exact p.lt
 | dK kvs=>obtain⟨_,_,_,_,o,_,_,e,_⟩:=x; exact Heap.lt_size e
 | dT kvs=>obtain⟨_,_,_,_,o,_,_,e,_⟩:=x; exact Heap.lt_size e
 | set S n=>obtain⟨o,_,_,_,e,_⟩:=x; exact Heap.lt_size e
 | ins C dx fs=>obtain⟨_,_,_,e,_⟩:=x; exact Heap.lt_size e
 | own y=>obtain⟨_,e⟩:=x; exact Heap.lt_size e
 | xd fs=>obtain⟨_,⟨_,_,_,e,_⟩,_⟩:=x; exact Heap.lt_size e
 | rng lo hi=>obtain⟨_,_,_,e⟩:=x; exact Heap.lt_size e
 | frz ob u=>obtain⟨e,_⟩:=x; exact Heap.lt_size e
 | tbl ps=>exact Heap.lt_size (show h.get? a=some _ from x)
 | met f y=>exact Heap.lt_size (show h.get? a=some _ from x)
 | ext φ=>obtain⟨_,⟨_,e⟩,_⟩:=x; exact Heap.lt_size e
theorem Paired.mapP{α β:Type}{F G:α->β->Prop}:∀ {l₁:List α} {l₂:List β},Paired F l₁ l₂->(∀ a b,F a b->G a b)->Paired G l₁ l₂
 | _,_,.nil,_=>.nil
 | _,_,.cons r t,f=>.cons (f _ _ r) (Paired.mapP t f)
theorem ObjOk.stay(x:ObjOk P w H h a o)(k:∀ b u,(b=a\/H b=some (.own a))->h.get? b=some u->h'.get? b=some u)
  (ho:∀ b,H b=some (.own a)->H' b=some (.own a)) (ht:∀ b xs,H b=some (.tup xs)->H' b=some (.tup xs)):ObjOk P w H' h' a o:=by
 induction o with
 | lst xs=>obtain⟨z,its,n,r,e⟩:=x; exact⟨z,its,n,r,k _ _ (.inl rfl) e⟩
 | tup xs=>obtain⟨z,its,r,ob,e,c⟩:=x; exact⟨z,its,r,ob,k _ _ (.inl rfl) e,c⟩
 | dK kvs=>obtain⟨z,y,vs,r,ob,es,ep,e,c⟩:=x; exact⟨z,y,vs,r,ob,es,ep,k _ _ (.inl rfl) e,c⟩
 | dT kvs =>
  obtain⟨z,y,xs,r,ob,es,ep,e,c⟩:=x
  exact⟨z,y,xs,Paired.mapP r fun p q z=>⟨z.1,ht _ _ z.2.1,z.2.2⟩,ob,es,ep,k _ _ (.inl rfl) e,c⟩
 | set S n=>obtain⟨ob,es,ep,t,e,c⟩:=x; exact⟨ob,es,ep,t,k _ _ (.inl rfl) e,c⟩
 | ins C dx fs =>
  obtain⟨d,z,ne,e,mA,⟨od,es,ep,e2,c⟩,r⟩:=x
  exact⟨ho _ d,z,ne,k _ _ (.inl rfl) e,mA,⟨od,es,ep,k _ _ (.inr d) e2,c⟩,r⟩
 | own y=>obtain⟨ob,e⟩:=x; exact⟨ob,k _ _ (.inl rfl) e⟩
 | xd fs=>obtain⟨mA,⟨od,es,ep,e,c⟩,r⟩:=x; exact⟨mA,⟨od,es,ep,k _ _ (.inl rfl) e,c⟩,r⟩
 | rng lo hi=>obtain⟨t,u,v,e⟩:=x; exact⟨t,u,v,k _ _ (.inl rfl) e⟩
 | frz ob u ih=>obtain⟨e,q⟩:=x; exact⟨k _ _ (.inl rfl) e,ih q⟩
 | tbl ps =>
  have e:h.get? a=some { cls:=.none,data:=.fields ps }:=x
  show h'.get? a=some { cls:=.none,data:=.fields ps }
  exact k a _ (.inl rfl) e
 | met f y =>
  have e:h.get? a=some (PySem.W.methodObj (.ref f) (.ref y)):=x
  show h'.get? a=some (PySem.W.methodObj (.ref f) (.ref y))
  exact k a _ (.inl rfl) e
 | ext φ=>obtain⟨p,⟨o,e⟩,st⟩:=x; exact⟨st _ _ p fun o q=>k _ _ (.inl rfl) q,⟨o,k _ _ (.inl rfl) e⟩,st⟩
theorem HOk.lt(x:HOk P w H h)(e:H a=some o):a < h.objs.size:=(x a o e).lt
theorem HOk.fresh(x:HOk P w H h)(e:h.objs.size<=a):H a=none:=by
 cases q:H a with
 | none=>rfl
 | some u=>exact absurd (Nat.lt_of_lt_of_le (x.lt q) e) (Nat.lt_irrefl _)
theorem HOk.kept(x:HOk P w H h)(k:∀ b u,h.get? b=some u->h'.get? b=some u):HOk P w H h':=fun a o e =>
 (x a o e).stay (fun b u _ q=>k b u q) (fun _ q=>q) fun _ _ q=>q
theorem HOk.laid(x:HOk P w H h)(k:∀ b u,h.get? b=some u->h'.get? b=some u)(hp:h.objs.size<=a)(new:ObjOk P w (upd H a o) h' a o):HOk P w (upd H a o) h':=fun b u e=>by
 have hn:=x.fresh hp
 by_cases hb:b=a
 ·subst hb; rw[zAF]at e; cases e; exact new
 ·rw[zAB hb]at e
  exact (x b u e).stay (fun c v _ q=>k c v q) (fun c q=>by rw[zAB (zAC q hn)]; exact q) fun c xs q=>by rw[zAB (zAC q hn)]; exact q
end
def Rd(H:Hp)(a:Addr)(u:HO):Prop:=H a=some u\/∃ o,H a=some (.frz o u)
theorem Rd.ok{P:Program}{w:World}{H:Hp}{h:Heap}{a:Addr}{u:HO}(r:Rd H a u)(x:HOk P w H h):ObjOk P w H h a u:=by
 rcases r with r | ⟨o,r⟩
 ·exact x a u r
 ·obtain⟨_,q⟩:=x a _ r
  exact q
def Mut:Option HO->Prop
 | some (.lst _)=>True
 | some (.dK _)=>True
 | some (.dT _)=>True
 | some (.set _ _)=>True
 | some (.ins _ _ _)=>True
 | some (.ext _)=>True
 | _=>False
section
variable {P:Program}{w:World}{H:Hp}{h h':Heap}{x e:Addr}{o':HO}
theorem HOk.write(ok:HOk P w H h)(mu:Mut (H x))(he:e=x\/H e=some (.own x))(k:∀ b u,b≠e->h.get? b=some u->h'.get? b=some u)(heo:∃ u,h'.get? e=some u)
  (new:ObjOk P w (upd H x o') h' x o'):HOk P w (upd H x o') h':=fun b u q=>by
 have nown:∀ c y,H c=some (.own y)->c≠x:=fun c y r z=>by subst z; rw[r]at mu; exact mu
 have ntup:∀ c xs,H c=some (.tup xs)->c≠x:=fun c xs r z=>by subst z; rw[r]at mu; exact mu
 by_cases hb:b=x
 ·subst hb; rw[zAF]at q; cases q; exact new
 ·rw[zAB hb]at q
  by_cases hbe:b=e
  ·have q':H b=some (.own x):=by
    rcases he with z | z
    ·exact absurd (hbe.trans z) hb
    ·rw[hbe]; exact z
   rw[q]at q'; cases q'
   obtain⟨v,hv⟩:=heo
   exact⟨v,by rw[hbe]; exact hv⟩
  ·refine (ok b u q).stay (fun c v hc r=>k c v ?_ r) (fun c r=>by rw[zAB (nown c b r)]; exact r) fun c xs r=>by rw[zAB (ntup c xs r)]; exact r
   rcases hc with rfl | hc
   ·exact hbe
   ·rintro rfl
    rcases he with z | z
    ·exact nown c b hc z
    ·rw[hc]at z; cases z; exact hb rfl
end
structure Un(fs ex:List Addr)(H H':Hp)(h h':Heap):Prop where
 keep:∀ b o,h.get? b=some o->H b=none->b∉fs->b∉ex->h'.get? b=some o
 slot:∀ b o,h.get? b=some o->H b=none->b∈fs->b∉ex->∃ sl,h'.get? b=some { o with slots:=sl }
 free:∀ b o,h.get? b=some o->H b=none->b∉ex->H' b=none
 there:∀ b o,h.get? b=some o->b∉ex->∃ o',h'.get? b=some o'
 tups:∀ b xs,H b=some (.tup xs)->H' b=some (.tup xs)
 frzs:∀ b o u,H b=some (.frz o u)->H' b=some (.frz o u)
 tbls:∀ b ps,H b=some (.tbl ps)->∃ more,H' b=some (.tbl (ps++more))
section
variable {fs fs' ex ex':List Addr}{H H1 H2:Hp}{h h1 h2 h':Heap}{a x e:Addr}{o:HO}
theorem Un.any(u:Un fs ex H H1 h h1){b:Addr}{ob:Obj}(q:h.get? b=some ob)(n:H b=none)(hx:b∉ex):∃ sl,h1.get? b=some { ob with slots:=sl }:=by
 by_cases hb:b∈fs
 ·exact u.slot b ob q n hb hx
 ·exact⟨ob.slots,u.keep b ob q n hb hx⟩
theorem Un.kept(k:∀ b u,h.get? b=some u->h'.get? b=some u):Un fs ex H H h h' :=
 ⟨fun b ob q _ _ _=>k b ob q,fun b ob q _ _ _=>⟨ob.slots,k b ob q⟩,fun _ _ _ n _=>n,fun b ob q _=>⟨ob,k b ob q⟩,fun _ _ q=>q,fun _ _ _ q=>q,fun _ ps q=>⟨#[],by rw[q]; simp⟩⟩
theorem Un.refl:Un fs ex H H h h:=Un.kept fun _ _ q=>q
theorem Un.laid(k:∀ b u,h.get? b=some u->h'.get? b=some u)(hp:h.objs.size<=a)(hn:H a=none):Un fs ex H (upd H a o) h h' where
 keep:=fun b u q _ _ _=>k b u q
 slot:=fun b u q _ _ _=>⟨u.slots,k b u q⟩
 free:=fun b u q n _=>by rw[zAB (Nat.ne_of_lt (Nat.lt_of_lt_of_le (Heap.lt_size q) hp))]; exact n
 there:=fun b u q _=>⟨u,k b u q⟩
 tups:=fun b xs q=>by rw[zAB (zAC q hn)]; exact q
 frzs:=fun b u xs q=>by rw[zAB (zAC q hn)]; exact q
 tbls:=fun b ps q=>⟨#[],by rw[zAB (zAC q hn),q]; simp⟩
theorem Un.write(mu:Mut (H x))(he:e=x\/H e=some (.own x))(k:∀ b u,b≠e->h.get? b=some u->h'.get? b=some u)(heo:∃ u,h'.get? e=some u):Un fs ex H (upd H x o) h h':=by
 have hx:∀ b,H b=none->b≠x:=fun b n z=>by subst z; rw[n]at mu; exact mu
 have hb:∀ b,H b=none->b≠e:=fun b n z=>by
  subst z
  rcases he with r | r
  ·exact hx b n r
  ·rw[n]at r; cases r
 have hm:∀ b u,H b=some u->¬ Mut (some u)->b≠x:=fun b u q nm z=>by subst z; rw[q]at mu; exact nm mu
 refine⟨fun b u q n _ _=>k b u (hb b n) q,fun b u q n _ _=>⟨u.slots,k b u (hb b n) q⟩,fun b u q n _=>by rw[zAB (hx b n)]; exact n,fun b u q _=>?_,
  fun b xs q=>by rw[zAB (hm b _ q fun z=>z)]; exact q,fun b u xs q=>by rw[zAB (hm b _ q fun z=>z)]; exact q,fun b ps q=>⟨#[],by rw[zAB (hm b _ q fun z=>z),q]; simp⟩⟩
 by_cases hbe:b=e
 ·subst hbe; exact heo
 ·exact⟨u,k b u hbe q⟩
end
def trk(h:Heap)(H:Hp):List Addr:=(List.range h.objs.size).filter fun a=>(H a).isSome
def hidT(h:Heap)(H:Hp):Heap:=PySem.W.hideAll h (trk h H)
theorem zFr(h:Heap)(H:Hp):(hidT h H).objs.size=h.objs.size:=PySem.W.hideAll_size _ _
theorem zHh{h:Heap}{H:Hp}{b:Addr}{o:Obj}(e:h.get? b=some o)(n:H b=none):(hidT h H).get? b=some o :=
 PySem.W.hideAll_get _ e fun hm=>by
  have q:(H b).isSome=true:=(List.mem_filter.mp hm).2
  rw[n]at q; simp at q
theorem zI4{h:Heap}{H:Hp}{b:Addr}{o:Obj}(e:(hidT h H).get? b=some o):h.get? b=some o/\H b=none:=by
 have e':h.get? b=some o:=PySem.W.of_hideAll (trk h H) e
 refine⟨e',?_⟩
 cases q:H b with
 | none=>rfl
 | some x =>
  have hm:b∈trk h H:=List.mem_filter.mpr ⟨List.mem_range.mpr (Heap.lt_size e'),by simp[q]⟩
  have z:(hidT h H).get? b=none:=PySem.W.hideAll_none (trk h H) hm
  rw[z]at e; cases e
def allNews(g h:Heap)(L:Addr):List (Addr×Obj):=(List.range h.objs.size).filterMap fun a=>if a=L\/(g.get? a).isSome=true then none else (h.get? a).map fun o=>(a,o)
def rest(g h:Heap)(L d:Addr):List (Addr×Obj):=(allNews g h L).filter fun p=>decide (p.1≠d)
structure Mod(K:PySem.W.Frag)(mg:Str->Option Value)(base:Heap):Prop where
 kin:K.In base
 glob:base.Ns mainGlobals mg
 blt:∃ mb,base.Ns builtinsNs mb/\∀ x:Str,x≠"__name__"->mb x=bootBuiltins x
 nolimit:base.NoLimit
structure Cx where
 prog:Program
 w:World
 K:PySem.W.Frag
 mg:Str->Option Value
 base:Heap
 A:Around
 N:List Str
 s₀:Shared
 H₀:Hp
 env:Env
 outer:List Env
 stack:List Env
 ex:List Addr
 fn:Str->Bool
 calm:Bool
 pn:List (Addr×Obj)
 xe:Value->Shared->Prop
def frs(l:List Env):List Addr:=l.filterMap (·.frame)
abbrev Cx.fs(X:Cx):List Addr:=frs X.outer
def Vis(sc:Scope)(x:Str):Prop:=sc.names.lookup x=some .local\/sc.names.lookup x=some .cell\/sc.names.lookup x=some .free
def Loc(sc:Scope)(x:Str):Prop:=sc.names.lookup x=some .local\/sc.names.lookup x=some .cell
def Look(env:Env)(h:Heap)(m:Str->Option Value)(x:Str)(u:Value):Prop :=
 (env.kindOf x=some .local/\m x=some u)\/((env.kindOf x=some .cell\/env.kindOf x=some .free)/\∃ c,env.cells.lookup x=some c/\h.IsCell c (some u))
structure Cx.Ok(X:Cx):Prop where
 mod:Mod X.K X.mg X.base
 kind:X.env.scope.kind=.function
 glob:X.env.globals=mainGlobals
 blt:X.env.builtins=builtinsNs
 above:X.s₀.heap.objs.size<=X.env.locals
 inj:∀ x y c,X.env.cells.lookup x=some c->X.env.cells.lookup y=some c->x=y
 has:∀ x,(X.env.kindOf x=some .cell\/X.env.kindOf x=some .free)->∃ c,X.env.cells.lookup x=some c
 cab:∀ x c,X.fn x=true->X.env.cells.lookup x=some c->X.s₀.heap.objs.size<=c
 hd:X.calm=true->X.A.handled=none
 frames:X.A.frames=some X.stack
 stk:X.stack=X.outer\/(X.stack=X.env::X.outer/\X.env.frame=some X.env.locals)
 exf:∀ b∈X.ex,b≠X.env.locals/\∀ x c,X.env.cells.lookup x=some c->c≠b
 bs:∀ b o,X.base.get? b=some o->X.s₀.heap.get? b=some o/\X.H₀ b=none
 bsz:X.base.objs.size<=X.s₀.heap.objs.size
 noex:∀ b o,X.base.get? b=some o->b∉X.ex
 exfs:∀ b∈X.ex,b∉X.fs
 funs:X.s₀.heap.FunFrames X.base X.outer
 frf:∀ b∈X.fs,X.H₀ b=none
structure Inv(X:Cx)(pins:List (Addr×Obj))(σ:List (Option V))(H:Hp)(s:Shared):Prop where
 ok:X.Ok
 os:s.os=X.s₀.os
 bare:AllBare s.gens
 base:Un X.fs X.ex X.H₀ H X.s₀.heap s.heap
 loc:∃ m,s.heap.Ns X.env.locals m/\∀ (i:Nat) (x:Str) (v:V),X.N[i]?=some x->σ[i]?=some (some v)->Vis X.env.scope x->∃ u,RelV v u/\Look X.env s.heap m x u
 cell:∀ x c,X.env.cells.lookup x=some c->∃ v,s.heap.IsCell c v
 free:H X.env.locals=none
 freeC:∀ x c,X.env.cells.lookup x=some c->H c=none
 pin:∀ p∈X.pn++pins,s.heap.get? p.1=some p.2/\H p.1=none/\p.1≠X.env.locals/\p.1∉X.fs/\∀ v,p.2.data≠.cell v
 hok:HOk X.prog X.w H s.heap
 len:σ.length=X.N.length
section
variable {X:Cx}{pins:List (Addr×Obj)}{σ:List (Option V)}{H H':Hp}{s:Shared}{h':Heap}
theorem Cx.Ok.nofr(ok:X.Ok){b:Addr}{o:Obj}(e:X.base.get? b=some o):b∉X.fs:=fun hb=>by
 have:=(ok.funs.mem hb).1
 rw[e]at this; cases this
theorem Inv.bs(I:Inv X pins σ H s):∀ b o,X.base.get? b=some o->s.heap.get? b=some o/\H b=none:=fun b o e =>
 ⟨I.base.keep b o (I.ok.bs b o e).1 (I.ok.bs b o e).2 (I.ok.nofr e) (I.ok.noex b o e),I.base.free b o (I.ok.bs b o e).1 (I.ok.bs b o e).2 (I.ok.noex b o e)⟩
theorem Inv.bk(I:Inv X pins σ H s):∀ b o,X.base.get? b=some o->s.heap.get? b=some o:=fun b o e=>(I.bs b o e).1
theorem Inv.mod(I:Inv X pins σ H s):Mod X.K X.mg X.base:=I.ok.mod
theorem Inv.kIn(I:Inv X pins σ H s):X.K.In s.heap:=I.ok.mod.kin.keeps I.bk
theorem Inv.lt(I:Inv X pins σ H s):X.env.locals < s.heap.objs.size:=let ⟨_,hn,_⟩:=I.loc; hn.lt
theorem Inv.sz(I:Inv X pins σ H s):X.s₀.heap.objs.size<=s.heap.objs.size:=Nat.le_trans I.ok.above (Nat.le_of_lt I.lt)
theorem Inv.nofs(I:Inv X pins σ H s){a:Addr}(h:s.heap.objs.size<=a):a∉X.fs:=fun hb=>by
 obtain⟨_,o,ho,_⟩:=I.ok.funs.mem hb
 exact absurd (Nat.lt_of_lt_of_le (Heap.lt_size ho) (Nat.le_trans I.sz h)) (Nat.lt_irrefl _)
theorem Inv.cne(I:Inv X pins σ H s):∀ x c,X.env.cells.lookup x=some c->c≠X.env.locals:=fun x c e z=>by
 obtain⟨v,o,ho,hd⟩:=I.cell x c e
 obtain⟨m,⟨o',es,ep,ho',hd',_⟩,_⟩:=I.loc
 rw[z,ho']at ho; cases ho; rw[hd']at hd; cases hd
theorem Inv.funs(I:Inv X pins σ H s):s.heap.FunFrames X.base X.outer:=by
 have all:∀ (l:List Env),(∀ b∈frs l,b∈X.fs)->X.s₀.heap.FunFrames X.base l->s.heap.FunFrames X.base l:=by
  intro l
  induction l with
  | nil=>intro _ _; trivial
  | cons env r ih =>
   intro hs hl
   obtain⟨hk,⟨L,o,hf,hn,ho,hd⟩,hr⟩:=hl
   have hL:L∈X.fs:=hs L (by unfold frs; rw[List.filterMap_cons,hf]; exact List.mem_cons_self)
   obtain⟨sl,e⟩:=I.base.slot L o ho (I.ok.frf L hL) hL fun z=>I.ok.exfs L z hL
   exact⟨hk,⟨L,_,hf,hn,e,hd⟩,ih (fun b hb=>hs b (by unfold frs; rw[List.filterMap_cons,hf]; exact List.mem_cons_of_mem _ hb)) hr⟩
 exact all X.outer (fun _ hb=>hb) I.ok.funs
theorem Inv.stack(I:Inv X pins σ H s):s.heap.FunFrames X.base X.stack:=by
 rcases I.ok.stk with e | ⟨e,hf⟩
 ·rw[e]; exact I.funs
 ·rw[e]
  obtain⟨m,hn,_⟩:=I.loc
  refine .cons (by rw[I.ok.kind]; decide) hf hn ?_ I.funs
  exact Heap.get?_none_of_le (Nat.le_trans I.ok.bsz I.ok.above)
theorem Inv.stkSub(I:Inv X pins σ H s):∀ b∈frs X.stack,b∈X.env.locals::X.fs:=fun b hb=>by
 rcases I.ok.stk with e | ⟨e,hf⟩
 ·rw[e]at hb; exact List.mem_cons_of_mem _ hb
 ·rw[e]at hb
  unfold frs at hb
  rw[List.filterMap_cons,hf]at hb
  exact hb
theorem Inv.stkFree(I:Inv X pins σ H s):∀ b∈frs X.stack,H b=none:=fun b hb=>by
 rcases List.mem_cons.mp (I.stkSub b hb) with e | hb
 ·rw[e]; exact I.free
 ·obtain⟨_,o,ho,_⟩:=I.ok.funs.mem hb
  exact I.base.free b o ho (I.ok.frf b hb) fun z=>I.ok.exfs b z hb
theorem Inv.step{g':Array GenState}{t':Nat}{d':Drawn}{ch:List Addr}(I:Inv X pins σ H s)
  (hch:∀ b∈ch,(b∈X.ex\/X.s₀.heap.objs.size<=b)/\b≠X.env.locals/\(∀ x c,X.env.cells.lookup x=some c->c≠b)/\∀ p∈X.pn++pins,p.1≠b)
  (keep:∀ b o,b≠X.env.locals->b∉X.fs->b∉ch->s.heap.get? b=some o->H b=none->h'.get? b=some o)
  (slot:∀ b o,b≠X.env.locals->b∈X.fs->b∉ch->s.heap.get? b=some o->H b=none->∃ sl,h'.get? b=some { o with slots:=sl }) (free:∀ b o,b∉ch->s.heap.get? b=some o->H b=none->H' b=none)
  (there:∀ b o,b∉ch->s.heap.get? b=some o->∃ o',h'.get? b=some o')
  (tups:∀ b xs,H b=some (.tup xs)->H' b=some (.tup xs)) (frzs:∀ b o u,H b=some (.frz o u)->H' b=some (.frz o u)) (tbls:∀ b ps,H b=some (.tbl ps)->∃ more,H' b=some (.tbl (ps++more)))
  (ns:∀ m,s.heap.Ns X.env.locals m->h'.Ns X.env.locals m) (hok:HOk X.prog X.w H' h') (hg:AllBare g') :
  Inv X pins σ H' { s with heap:=h',gens:=g',drawn:=d',toks:=t' }:=by
 have neL:∀ b o,X.s₀.heap.get? b=some o->b≠X.env.locals:=fun b o e=>Nat.ne_of_lt (Nat.lt_of_lt_of_le (Heap.lt_size e) I.ok.above)
 have neC:∀ b o,X.s₀.heap.get? b=some o->b∉X.ex->b∉ch:=fun b o e hx hb=>by
  rcases (hch b hb).1 with z | z
  ·exact hx z
  ·exact absurd (Nat.lt_of_lt_of_le (Heap.lt_size e) z) (Nat.lt_irrefl _)
 have cellK:∀ x c,X.env.cells.lookup x=some c->∀ v,s.heap.IsCell c v->h'.IsCell c v:=fun x c e v ⟨o,ho,hd⟩=>by
  have nch:c∉ch:=fun z=>(hch c z).2.2.1 x c e rfl
  by_cases hc:c∈X.fs
  ·obtain⟨sl,q⟩:=slot c o (I.cne x c e) hc nch ho (I.freeC x c e)
   exact⟨_,q,hd⟩
  ·exact⟨o,keep c o (I.cne x c e) hc nch ho (I.freeC x c e),hd⟩
 refine⟨I.ok,I.os,hg,⟨fun b o e n hb hx=>?_,fun b o e n hb hx=>?_,fun b o e n hx=>?_,fun b o e hx=>?_,fun b xs e=>tups b xs (I.base.tups b xs e),fun b o xs e=>frzs b o xs (I.base.frzs b o xs e),fun b ps e=>?_⟩,?_,fun x c e=>?_,?_,fun x c e=>?_,fun p hp=>?_,hok,I.len⟩
 ·exact keep b o (neL b o e) hb (neC b o e hx) (I.base.keep b o e n hb hx) (I.base.free b o e n hx)
 ·obtain⟨sl,e1⟩:=I.base.slot b o e n hb hx
  obtain⟨sl',e2⟩:=slot b _ (neL b o e) hb (neC b o e hx) e1 (I.base.free b o e n hx)
  exact⟨sl',e2⟩
 ·obtain⟨o',e1⟩:=I.base.there b o e hx
  exact free b o' (neC b o e hx) e1 (I.base.free b o e n hx)
 ·obtain⟨o',e1⟩:=I.base.there b o e hx
  exact there b o' (neC b o e hx) e1
 ·obtain⟨m1,e1⟩:=I.base.tbls b ps e
  obtain⟨m2,e2⟩:=tbls b _ e1
  exact⟨m1++m2,by rw[e2,Array.append_assoc]⟩
 ·obtain⟨m,hn,hl⟩:=I.loc
  refine⟨m,ns m hn,fun i x v e1 e2 e3=>?_⟩
  obtain⟨u,r,l⟩:=hl i x v e1 e2 e3
  refine⟨u,r,?_⟩
  rcases l with l | ⟨k,c,e,z⟩
  ·exact .inl l
  ·exact .inr ⟨k,c,e,cellK x c e _ z⟩
 ·obtain⟨v,z⟩:=I.cell x c e
  exact⟨v,cellK x c e v z⟩
 ·obtain⟨m,⟨o,_,_,ho,_⟩,_⟩:=I.loc
  exact free _ o (fun z=>(hch _ z).2.1 rfl) ho I.free
 ·obtain⟨v,o,ho,hd⟩:=I.cell x c e
  exact free c o (fun z=>(hch c z).2.2.1 x c e rfl) ho (I.freeC x c e)
 ·obtain⟨e,n,ne,nf,d⟩:=I.pin p hp
  have nch:p.1∉ch:=fun z=>(hch p.1 z).2.2.2 p hp rfl
  exact⟨keep p.1 p.2 ne nf nch e n,free p.1 p.2 nch e n,ne,nf,d⟩
theorem Inv.un{t':Nat}(I:Inv X pins σ H s)(u:Un X.fs [] H H' s.heap h')(hok:HOk X.prog X.w H' h'):Inv X pins σ H' { s with heap:=h',toks:=t' }:=by
 obtain⟨m,⟨o,es,ep,ho,r⟩,_⟩:=id I.loc
 obtain⟨sl,hL⟩:=u.any ho I.free (by simp)
 exact I.step (g':=s.gens) (d':=s.drawn) (ch:=[]) (fun _ z=>nomatch z) (fun b o _ hb _ e n=>u.keep b o e n hb (by simp)) (fun b o _ hb _ e n=>u.slot b o e n hb (by simp)) (fun b o _ e n=>u.free b o e n (by simp)) (fun b o _ e=>u.there b o e (by simp)) u.tups u.frzs u.tbls (fun m' hm=>by
  obtain⟨o',es',ep',ho',r'⟩:=hm
  rw[ho]at ho'; cases ho'
  exact⟨_,es',ep',hL,r'⟩) hok I.bare
theorem Inv.call{g':Array GenState}{t':Nat}{d':Drawn}{ch:List Addr}(I:Inv X pins σ H s)(u:Un (frs X.stack) ch H H' s.heap h')(hok:HOk X.prog X.w H' h')(hg:AllBare g')
  (hch:∀ b∈ch,(b∈X.ex\/X.s₀.heap.objs.size<=b)/\b≠X.env.locals/\(∀ x c,X.env.cells.lookup x=some c->c≠b)/\∀ p∈X.pn++pins,p.1≠b) :
  Inv X pins σ H' { s with heap:=h',gens:=g',drawn:=d',toks:=t' }:=by
 obtain⟨m,⟨o,es,ep,ho,r⟩,_⟩:=id I.loc
 obtain⟨sl,hL⟩:=u.any ho I.free fun z=>(hch _ z).2.1 rfl
 exact I.step (ch:=ch) hch (fun b o hL hb hc e n=>u.keep b o e n (fun z=>(List.mem_cons.mp (I.stkSub b z)).elim hL hb) hc) (fun b o _ _ hc e n=>u.any e n hc) (fun b o hc e n=>u.free b o e n hc) (fun b o hc e=>u.there b o e hc) u.tups u.frzs u.tbls (fun m' hm=>by
  obtain⟨o',es',ep',ho',r'⟩:=hm
  rw[ho]at ho'; cases ho'
  exact⟨_,es',ep',hL,r'⟩) hok hg
theorem Inv.turned{t':Nat}{it:Addr}(I:Inv X pins σ H s)(k:∀ b o,b≠it->s.heap.get? b=some o->h'.get? b=some o)(hn:H it=none)(hL:it≠X.env.locals)
  (h1:it∈X.ex\/X.s₀.heap.objs.size<=it) (h2:∀ x c,X.env.cells.lookup x=some c->c≠it) (h3:∀ p∈X.pn++pins,p.1≠it):Inv X pins σ H { s with heap:=h',toks:=t' }:=by
 have nit:∀ b u,H b=some u->b≠it:=fun b u e z=>by rw[z,hn]at e; cases e
 refine I.step (g':=s.gens) (d':=s.drawn) (ch:=[it]) (fun b hb=>?_) (fun b o _ _ hc e _=>k b o (fun z=>hc (by simp[z])) e) (fun b o _ _ hc e _=>⟨o.slots,k b o (fun z=>hc (by simp[z])) e⟩) (fun _ _ _ _ n=>n)
  (fun b o hc e=>⟨o,k b o (fun z=>hc (by simp[z])) e⟩) (fun _ _ e=>e) (fun _ _ _ e=>e) (fun b ps e=>⟨#[],by rw[e]; simp⟩) (fun m hm=>?_) (fun b u e=>?_) I.bare
 ·have e:b=it:=by simpa using hb
  subst e
  exact⟨h1,hL,h2,h3⟩
 ·obtain⟨o,es,ep,ho,r⟩:=hm
  exact⟨o,es,ep,k _ o (Ne.symm hL) ho,r⟩
 ·refine (I.hok b u e).stay (fun c v hc q=>k c v ?_ q) (fun _ q=>q) fun _ _ q=>q
  rcases hc with z | z
  ·rw[z]; exact nit b u e
  ·exact nit c _ z
theorem Inv.tok(I:Inv X pins σ H s)(t:Nat):Inv X pins σ H { s with toks:=t }:=I.un (h':=s.heap) (t':=t) Un.refl I.hok
theorem Inv.kept{t':Nat}(I:Inv X pins σ H s)(k:∀ b u,s.heap.get? b=some u->h'.get? b=some u):Inv X pins σ H { s with heap:=h',toks:=t' }:=I.un (Un.kept k) (I.hok.kept k)
theorem Inv.laid{a:Addr}{o:HO}{t':Nat}(I:Inv X pins σ H s)(k:∀ b u,s.heap.get? b=some u->h'.get? b=some u)(hp:s.heap.objs.size<=a)(new:ObjOk X.prog X.w (upd H a o) h' a o) :
  Inv X pins σ (upd H a o) { s with heap:=h',toks:=t' }:=I.un (Un.laid k hp (I.hok.fresh hp)) (I.hok.laid k hp new)
theorem Inv.write{x e:Addr}{o:HO}{t':Nat}(I:Inv X pins σ H s)(mu:Mut (H x))(he:e=x\/H e=some (.own x))(k:∀ b u,b≠e->s.heap.get? b=some u->h'.get? b=some u)(heo:∃ u,h'.get? e=some u)
  (new:ObjOk X.prog X.w (upd H x o) h' x o):Inv X pins σ (upd H x o) { s with heap:=h',toks:=t' }:=I.un (Un.write mu he k heo) (I.hok.write mu he k heo new)
theorem Inv.pins_of{pins':List (Addr×Obj)}(I:Inv X pins σ H s)(h:∀ p∈pins',s.heap.get? p.1=some p.2/\H p.1=none/\p.1≠X.env.locals/\p.1∉X.fs/\∀ v,p.2.data≠.cell v):Inv X pins' σ H s :=
 ⟨I.ok,I.os,I.bare,I.base,I.loc,I.cell,I.free,I.freeC,fun p hp=>(List.mem_append.mp hp).elim (fun z=>I.pin p (List.mem_append_left _ z)) (h p),I.hok,I.len⟩
theorem zBu{N:List Str}(hN:N.Nodup){i j:Nat}{x:Str}(a:N[i]?=some x)(b:N[j]?=some x):i=j:=by
 obtain⟨h1,e1⟩:=List.getElem?_eq_some_iff.mp a
 obtain⟨h2,e2⟩:=List.getElem?_eq_some_iff.mp b
 exact (List.getElem_inj hN).mp (e1.trans e2.symm)
theorem zC3{M:Model}{A:Around}{E:Value->Shared->Prop}{i:Nat}{x:Str}{v:V}{u:Value}{Q:Unit->Shared->Prop}(I:Inv X pins σ H s)(hN:X.N.Nodup)(hi:X.N[i]?=some x)(hx:Loc X.env.scope x)(r:RelV v u)
  (h:∀ s',Inv X pins (σ.set i (some v)) H s'->(∃ a,Heap.SameBut a s.heap s'.heap/\(a=X.env.locals\/X.env.cells.lookup x=some a))->Q () s') (hf:X.fn x=true\/X.env.scope.names.lookup x=some .local:=by first | exact .inl rfl | exact .inr rfl | assumption):wpAny M A (storeName X.env x u) Q E s:=by
 obtain⟨m,hn,hl⟩:=id I.loc
 have hcls:(X.env.scope.kind == .class || (X.env.scope.kind == .module && X.env.locals != X.env.globals))=false:=by rw[I.ok.kind]; rfl
 have hiσ:i < σ.length:=by rw[I.len]; exact (List.getElem?_eq_some_iff.mp hi).1
 have cne:=I.cne
 have tracked:∀ {a:Addr} {h':Heap},(∃ o,s.heap.get? a=some o/\H a=none)->Heap.SameBut a s.heap h'->HOk X.prog X.w H h':=fun {a h'} ha hs b ob e=>by
  obtain⟨_,_,hfree⟩:=ha
  refine (I.hok b ob e).stay (fun c w' hc q=>(hs.2 c ?_).trans q) (fun _ q=>q) fun _ _ q=>q
  rintro rfl
  rcases hc with rfl | hc
  ·rw[hfree]at e; cases e
  ·rw[hfree]at hc; cases hc
 rcases hx with hk | hk
 ·refine wpAny_storeName_local hk hn (fun h' hn' hs=>?_) hcls
  obtain⟨oL,_,_,hoL,_⟩:=id hn
  refine h _ ⟨I.ok,I.os,I.bare,⟨fun b o e n hb hx=>?_,fun b o e n hb hx=>?_,I.base.free,fun b o e hx=>?_,I.base.tups,I.base.frzs,I.base.tbls⟩,⟨_,hn',fun j y v' e1 e2 e3=>?_⟩,fun y c e=>?_,I.free,I.freeC,fun p hp=>?_,tracked ⟨oL,hoL,I.free⟩ hs,by simpa using I.len⟩ ⟨_,hs,.inl rfl⟩
  ·exact (hs.2 b (Nat.ne_of_lt (Nat.lt_of_lt_of_le (Heap.lt_size e) I.ok.above))).trans (I.base.keep b o e n hb hx)
  ·obtain⟨sl,e1⟩:=I.base.slot b o e n hb hx
   exact⟨sl,(hs.2 b (Nat.ne_of_lt (Nat.lt_of_lt_of_le (Heap.lt_size e) I.ok.above))).trans e1⟩
  ·obtain⟨o',e1⟩:=I.base.there b o e hx
   exact⟨o',(hs.2 b (Nat.ne_of_lt (Nat.lt_of_lt_of_le (Heap.lt_size e) I.ok.above))).trans e1⟩
  ·by_cases hj:j=i
   ·subst hj
    rw[hi]at e1; cases e1
    rw[List.getElem?_set_self hiσ]at e2
    cases e2
    exact⟨u,r,.inl ⟨hk,by simp⟩⟩
   ·rw[List.getElem?_set_ne (Ne.symm hj)]at e2
    obtain⟨u',r',q⟩:=hl j y v' e1 e2 e3
    refine⟨u',r',?_⟩
    rcases q with ⟨k,e⟩ | ⟨k,c,e,z⟩
    ·refine .inl ⟨k,?_⟩
     have:y≠x:=fun e=>hj (zBu hN e1 (e ▸ hi))
     simp[this,e]
    ·exact .inr ⟨k,c,e,z.sameBut hs (cne y c e)⟩
  ·obtain⟨w',z⟩:=I.cell y c e
   exact⟨w',z.sameBut hs (cne y c e)⟩
  ·obtain⟨e,n,ne,nf,d⟩:=I.pin p hp
   exact⟨(hs.2 p.1 ne).trans e,n,ne,nf,d⟩
 ·have hfn:X.fn x=true:=by
   rcases hf with z | z
   ·exact z
   ·rw[z]at hk; cases hk
  obtain⟨c,hc⟩:=I.ok.has x (.inl hk)
  obtain⟨w',z⟩:=I.cell x c hc
  refine wpAny_storeName_cell I.ok.kind hk hc z (fun h' hc' hs=>?_)
  obtain⟨oc,hoc,hocd⟩:=id z
  refine h { s with heap:=h' } ⟨I.ok,I.os,I.bare,⟨fun b o e n hb hx=>?_,fun b o e n hb hx=>?_,I.base.free,fun b o e hx=>?_,I.base.tups,I.base.frzs,I.base.tbls⟩,⟨m,hn.sameBut hs (Ne.symm (cne x c hc)),fun j y v' e1 e2 e3=>?_⟩,fun y c' e=>?_,I.free,I.freeC,fun p hp=>?_,tracked ⟨oc,hoc,I.freeC x c hc⟩ hs,by simpa using I.len⟩ ⟨c,hs,.inr hc⟩
  ·exact (hs.2 b (Nat.ne_of_lt (Nat.lt_of_lt_of_le (Heap.lt_size e) (I.ok.cab x c hfn hc)))).trans (I.base.keep b o e n hb hx)
  ·obtain⟨sl,e1⟩:=I.base.slot b o e n hb hx
   exact⟨sl,(hs.2 b (Nat.ne_of_lt (Nat.lt_of_lt_of_le (Heap.lt_size e) (I.ok.cab x c hfn hc)))).trans e1⟩
  ·obtain⟨o',e1⟩:=I.base.there b o e hx
   exact⟨o',(hs.2 b (Nat.ne_of_lt (Nat.lt_of_lt_of_le (Heap.lt_size e) (I.ok.cab x c hfn hc)))).trans e1⟩
  ·by_cases hj:j=i
   ·subst hj
    rw[hi]at e1; cases e1
    rw[List.getElem?_set_self hiσ]at e2
    cases e2
    exact⟨u,r,.inr ⟨.inl hk,c,hc,hc'⟩⟩
   ·rw[List.getElem?_set_ne (Ne.symm hj)]at e2
    obtain⟨u',r',q⟩:=hl j y v' e1 e2 e3
    refine⟨u',r',?_⟩
    rcases q with q | ⟨k,c',e,z'⟩
    ·exact .inl q
    ·refine .inr ⟨k,c',e,z'.sameBut hs ?_⟩
     rintro rfl
     exact hj (zBu hN e1 (I.ok.inj _ _ _ e hc ▸ hi))
  ·by_cases hcc:c'=c
   ·subst hcc; exact⟨_,hc'⟩
   ·obtain⟨w2,z2⟩:=I.cell y c' e
    exact⟨w2,z2.sameBut hs hcc⟩
  ·obtain⟨e,n,ne,nf,d⟩:=I.pin p hp
   refine⟨(hs.2 p.1 ?_).trans e,n,ne,nf,d⟩
   intro q
   rw[q,hoc]at e
   have q':oc=p.2:=Option.some.inj e
   exact d w' (by rw[← q']; exact hocd)
theorem zAO{M:Model}{A:Around}{E:Value->Shared->Prop}{i:Nat}{x:Str}{v:V}{u:Value}{Q:Unit->Shared->Prop}(I:Inv X pins σ H s)(hN:X.N.Nodup)(hi:X.N[i]?=some x)(hx:Loc X.env.scope x)(r:RelV v u)
  (h:∀ s',Inv X pins (σ.set i (some v)) H s'->Q () s') (hf:X.fn x=true\/X.env.scope.names.lookup x=some .local:=by first | exact .inl rfl | exact .inr rfl | assumption):wpAny M A (storeName X.env x u) Q E s :=
 zC3 I hN hi hx r (fun s' I' _=>h s' I') hf
theorem Inv.call'{s':Shared}{ch:List Addr}(I:Inv X pins σ H s)(ho:s'.os=s.os)(u:Un (frs X.stack) ch H H' s.heap s'.heap)(hok:HOk X.prog X.w H' s'.heap)(hg:AllBare s'.gens)
  (hch:∀ b∈ch,(b∈X.ex\/X.s₀.heap.objs.size<=b)/\b≠X.env.locals/\(∀ x c,X.env.cells.lookup x=some c->c≠b)/\∀ p∈X.pn++pins,p.1≠b):Inv X pins σ H' s':=by
 obtain⟨h',g',d',t',o'⟩:=s'
 have e:o'=s.os:=ho
 subst e
 exact I.call (g':=g') (t':=t') (d':=d') u hok hg hch
end
abbrev XK:=Value->Option Addr->Hp->Prop
abbrev St:=List (Option V)
abbrev VK:=V->Hp->Prop
abbrev TE:=St->Hp->VK->Prop
abbrev TT:=St->Hp->(Bool->Hp->Prop)->Prop
abbrev TA:=St->Hp->(List V->Hp->Prop)->Prop
structure Ends where
 nx:St->Hp->Prop
 rt:VK
 bk:St->Hp->Prop:=fun _ _=>False
 ct:St->Hp->Prop:=fun _ _=>False
abbrev TS:=Ends->St->Hp->Prop
def EP(X:Cx)(pins:List (Addr×Obj))(σ:St)(Q:VK)(u:Value)(s':Shared):Prop:=∃ v H',Inv X pins σ H' s'/\RelV v u/\Q v H'
def TP(X:Cx)(pins:List (Addr×Obj))(σ:St)(Q:Bool->Hp->Prop)(b:Bool)(s':Shared):Prop:=∃ H',Inv X pins σ H' s'/\Q b H'
def AP(X:Cx)(pins:List (Addr×Obj))(σ:St)(Q:List V->Hp->Prop)(us:List Value)(s':Shared):Prop:=∃ vs H',Inv X pins σ H' s'/\Vals vs us/\Q vs H'
def SP(X:Cx)(pins:List (Addr×Obj))(D:Ends)(f:Flow)(s':Shared):Prop :=
 match f with
 | .next=>∃ σ' H',Inv X pins σ' H' s'/\D.nx σ' H'
 | .brk=>∃ σ' H',Inv X pins σ' H' s'/\D.bk σ' H'
 | .cont=>∃ σ' H',Inv X pins σ' H' s'/\D.ct σ' H'
 | .ret u=>∃ v σ' H',Inv X pins σ' H' s'/\RelV v u/\D.rt v H'
def PE(X:Cx)(e:Expr)(t:TE):Prop :=
 ∀ (pins:List (Addr×Obj)) (s:Shared) (σ:St) (H:Hp) (Q:VK),Inv X pins σ H s->t σ H Q->wpAny (model X.prog X.w) X.A (eval e X.env) (EP X pins σ Q) X.xe s
def PT(X:Cx)(e:Expr)(t:TT):Prop :=
 ∀ (pins:List (Addr×Obj)) (s:Shared) (σ:St) (H:Hp) (Q:Bool->Hp->Prop),Inv X pins σ H s->t σ H Q->wpAny (model X.prog X.w) X.A (isTrue e X.env (eval e X.env)) (TP X pins σ Q) X.xe s
def PW(X:Cx)(e:Expr)(t:TT):Prop :=
 ∀ (whole:Sem Value) (pins:List (Addr×Obj)) (s:Shared) (σ:St) (H:Hp) (Q:Bool->Hp->Prop),Inv X pins σ H s->t σ H Q->wpAny (model X.prog X.w) X.A (isTrue e X.env whole) (TP X pins σ Q) X.xe s
theorem PW.pt{X:Cx}{e:Expr}{t:TT}(h:PW X e t):PT X e t:=h _
def PA(X:Cx)(es:List Expr)(t:TA):Prop :=
 ∀ (pos:Pos) (pins:List (Addr×Obj)) (s:Shared) (σ:St) (H:Hp) (Q:List V->Hp->Prop),Inv X pins σ H s->t σ H Q->wpAny (model X.prog X.w) X.A (spliced (backTo pos (starEach es X.env))) (AP X pins σ Q) X.xe s
def PS(X:Cx)(st:Stmt)(t:TS):Prop :=
 ∀ (pins:List (Addr×Obj)) (s:Shared) (σ:St) (H:Hp) (D:Ends),Inv X pins σ H s->t D σ H->wpAny (model X.prog X.w) X.A (exec st X.env) (SP X pins D) X.xe s
def PSs(X:Cx)(st:List Stmt)(t:TS):Prop :=
 ∀ (pins:List (Addr×Obj)) (s:Shared) (σ:St) (H:Hp) (D:Ends),Inv X pins σ H s->t D σ H->wpAny (model X.prog X.w) X.A (execs st X.env) (SP X pins D) X.xe s
theorem thn{α:Type}{t:Sem α}{Q Q':α->Shared->Prop}{M:Model}{A:Around}{E:Value->Shared->Prop}{s:Shared}(h:wpAny M A t Q E s)(hQ:∀ a s,Q a s->Q' a s):wpAny M A t Q' E s:=wpAny_mono h hQ fun _ _ x=>x
section
variable {X:Cx}
theorem bin{a b:Expr}{ta tb:TE}(ha:PE X a ta)(hb:PE X b tb){pins:List (Addr×Obj)}{s:Shared}{σ:St}{H:Hp}{R:V->V->Hp->Prop}(I:Inv X pins σ H s)(h:ta σ H fun x H1=>tb σ H1 fun y H2=>R x y H2)
  {α:Type} {Q:α->Shared->Prop} {f:Value->Value->Sem α}
  (hf:∀ v u s2 x y H2,Inv X pins σ H2 s2->RelV x v->RelV y u->R x y H2->wpAny (model X.prog X.w) X.A (f v u) Q X.xe s2) :
  wpAny (model X.prog X.w) X.A (eval a X.env) (fun v s₁=>wpAny (model X.prog X.w) X.A (eval b X.env) (fun u s₂=>wpAny (model X.prog X.w) X.A (f v u) Q X.xe s₂) X.xe s₁) X.xe s:=by
 refine thn (ha pins s σ H _ I h) fun v s1 ⟨x,H1,I1,r1,q1⟩=>?_
 refine thn (hb pins s1 σ H1 _ I1 q1) fun u s2 ⟨y,H2,I2,r2,q2⟩=>?_
 exact hf v u s2 x y H2 I2 r1 r2 q2
def tVar(i:Nat):TE:=fun σ H Q=>∃ v,σ[i]?=some (some v)/\Q v H
def tC(v:V):TE:=fun _ H Q=>Q v H
theorem zB4{i:Nat}{x:Str}{pos:Pos}(hN:X.N[i]?=some x)(hv:Vis X.env.scope x)(hd:(x == ("__debug__":Str))=false:=by decide)(hcd:(x == ("__classdict__":Str))=false:=by decide):PE X (.Name x pos) (tVar i):=by
 intro pins s σ H Q I h
 obtain⟨v,e,h⟩:=h
 obtain⟨m,hn,hl⟩:=I.loc
 obtain⟨u,r,l⟩:=hl i x v hN e hv
 have fin:EP X pins σ Q u s:=⟨v,H,I,r,h⟩
 rcases l with ⟨hk,hm⟩ | ⟨hk,c,hc,hcell⟩
 ·exact wpAny_Name (wpAny_loadName_local I.ok.kind hk hn hm fin) hd
 ·rcases hk with hk | hk
  ·exact wpAny_Name (wpAny_loadName_cell I.ok.kind hk hc hcell fin) hd
  ·exact wpAny_Name (wpAny_loadName_free I.ok.kind hk hc hcell fin hcd) hd
theorem zJT{i j pos}:PE X (.Constant (.int i) j pos) (tC (.int i)):=fun _ _ _ H _ I h=>wpAny_Constant_int ⟨.int i,H,I.tok _,⟨_,rfl⟩,h⟩
theorem zKA{b j pos}:PE X (.Constant (.bool b) j pos) (tC (.bl b)):=fun _ _ _ H _ I h=>Constant_bool ⟨.bl b,H,I,rfl,h⟩
theorem zJD{x j pos}:PE X (.Constant (.str x) j pos) (tC (.str x)):=fun _ _ _ H _ I h=>Calls.Constant_str ⟨.str x,H,I.tok _,⟨_,rfl⟩,h⟩
def Gl(X:Cx)(x:Str):Prop:=X.env.kindOf x=some .globalImplicit
theorem zAh{E:Value->Shared->Prop}{pins:List (Addr×Obj)}{s:Shared}{σ:St}{H:Hp}{x:Str}{u:Value}{pos:Pos}{Q:Value->Shared->Prop}(I:Inv X pins σ H s)(hg:Gl X x)(hm:X.mg x=some u)(h:Q u s)
  (hd:(x == ("__debug__":Str))=false:=by decide):wpAny (model X.prog X.w) X.A (eval (.Name x pos) X.env) Q E s :=
 Calls.Name_function_global I.ok.kind hg (Calls.loadGlobal_global (by rw[I.ok.glob]; exact I.mod.glob.keeps I.bk) hm h) hd
theorem zAs{E:Value->Shared->Prop}{pins:List (Addr×Obj)}{s:Shared}{σ:St}{H:Hp}{x:Str}{u:Value}{pos:Pos}{Q:Value->Shared->Prop}(I:Inv X pins σ H s)(hg:Gl X x)(hm:X.mg x=none)(hv:bootBuiltins x=some u)(h:Q u s)
  (hn:x≠"__name__":=by decide) (hd:(x == ("__debug__":Str))=false:=by decide):wpAny (model X.prog X.w) X.A (eval (.Name x pos) X.env) Q E s:=by
 obtain⟨mb,h1,h2⟩:=I.mod.blt
 exact Calls.Name_function_global I.ok.kind hg (Calls.loadGlobal_builtin (by rw[I.ok.glob]; exact I.mod.glob.keeps I.bk) hm (by rw[I.ok.blt]; exact h1.keeps I.bk) ((h2 x hn).trans hv) h) hd
theorem zEv{x:Str}{v:V}{u:Value}{pos:Pos}(hg:Gl X x)(hm:X.mg x=some u)(r:RelV v u)(hd:(x == ("__debug__":Str))=false:=by decide):PE X (.Name x pos) (tC v) :=
 fun _ _ _ H _ I h=>zAh I hg hm ⟨v,H,I,r,h⟩ hd
theorem zH6{x:Str}{v:V}{u:Value}{pos:Pos}(hg:Gl X x)(hm:X.mg x=none)(hv:bootBuiltins x=some u)(r:RelV v u)(hn:x≠"__name__":=by decide)(hd:(x == ("__debug__":Str))=false:=by decide):PE X (.Name x pos) (tC v) :=
 fun _ _ _ H _ I h=>zAs I hg hm hv ⟨v,H,I,r,h⟩ hn hd
variable {a b:Expr}{ta tb:TE}{pos:Pos}
variable {tA tB':TT}{rest:List Expr}
def tAnd(t u:TT):TT:=fun σ H Q=>t σ H fun c H1=>if c=true then u σ H1 Q else Q false H1
def tOr(t u:TT):TT:=fun σ H Q=>t σ H fun c H1=>if c=true then Q true H1 else u σ H1 Q
def tNot(t:TT):TT:=fun σ H Q=>t σ H fun c H1=>Q (!c) H1
theorem zIZ(ha:PT X a tA):PW X (.BoolOp .And [a] pos) tA:=by
 intro wh pins s σ H Q I h
 refine isTrue_and (thn (ha pins s σ H Q I h) fun c s1 e=>?_)
 cases c with
 | true=>exact isTrue_and_nil e
 | false=>exact e
theorem zJo(ha:PT X a tA):PW X (.BoolOp .Or [a] pos) tA:=by
 intro wh pins s σ H Q I h
 refine isTrue_or (thn (ha pins s σ H Q I h) fun c s1 e=>?_)
 cases c with
 | false=>exact isTrue_or_nil e
 | true=>exact e
theorem zJM(ha:PT X a tA)(hb:PW X (.BoolOp .And (b::rest) pos) tB'):PW X (.BoolOp .And (a::b::rest) pos) (tAnd tA tB'):=by
 intro wh pins s σ H Q I h
 refine isTrue_and (thn (ha pins s σ H _ I h) fun c s1 ⟨H1,I1,q1⟩=>?_)
 cases c with
 | true=>exact hb wh pins s1 σ H1 Q I1 q1
 | false=>exact⟨H1,I1,q1⟩
theorem zJ5(ha:PT X a tA)(hb:PW X (.BoolOp .Or (b::rest) pos) tB'):PW X (.BoolOp .Or (a::b::rest) pos) (tOr tA tB'):=by
 intro wh pins s σ H Q I h
 refine isTrue_or (thn (ha pins s σ H _ I h) fun c s1 ⟨H1,I1,q1⟩=>?_)
 cases c with
 | true=>exact⟨H1,I1,q1⟩
 | false=>exact hb wh pins s1 σ H1 Q I1 q1
theorem zJu(ha:PT X a tA):PT X (.UnaryOp .Not a pos) (tNot tA):=by
 intro pins s σ H Q I h
 exact isTrue_not (ha pins s σ H (fun c H1=>Q (!c) H1) I h)
def tAndV(ta tb:TE):TE:=fun σ H Q=>ta σ H fun x H1=>∃ c,x=.bl c/\if c=true then tb σ H1 Q else Q (.bl false) H1
theorem zJK{op}{t:TE}(h:PE X a t):PE X (.BoolOp op [a] pos) t:=fun pins s σ H Q I hw=>BoolOp_one (h pins s σ H Q I hw)
theorem zJv(ha:PE X a ta)(hb:PE X (.BoolOp .And (b::rest) pos) tb):PE X (.BoolOp .And (a::b::rest) pos) (tAndV ta tb):=by
 intro pins s σ H Q I h
 refine BoolOp_and (thn (ha pins s σ H _ I h) fun v s1 ⟨x,H1,I1,r1,q1⟩=>?_)
 obtain⟨c,rfl,q1⟩:=q1
 cases r1
 refine wpAny_truthy_bool ?_
 cases c with
 | true=>exact hb pins s1 σ H1 Q I1 q1
 | false=>exact⟨.bl false,H1,I1,rfl,q1⟩
end
def SqL(K:PySem.W.Frag)(H:Hp)(a:Addr)(xs:List V):Prop :=
 Rd H a (.lst xs) \/
  ∃ (o:Obj) (its:Array Value) (n:Nat),K.lookup a=some o/\o.cls=.type "list"/\o.dict=none/\o.data=.seq its n/\its.size<=sizeLine/\Vals xs its.toList
def SqT(K:PySem.W.Frag)(H:Hp)(a:Addr)(xs:List V):Prop :=
 Rd H a (.tup xs) \/
  ∃ (o:Obj) (its:Array Value) (n:Nat),K.lookup a=some o/\o.cls=.type "tuple"/\o.data=.seq its n/\its.size<=sizeLine/\Vals xs its.toList
def absV:Value->Option V
 | .none=>some .non
 | .bool b=>some (.bl b)
 | .int i _=>some (.int i)
 | .str x _=>some (.str x)
 | .bytes b _=>some (.byt b)
 | .float b _=>some (.flt b)
 | .ref a=>some (.ref a)
 | .type n=>some (.ty n)
 | _=>none
theorem RelV.abs{x:V}{u:Value}(r:RelV x u):absV u=some x:=by
 cases x with
 | non=>cases r; rfl
 | bl _=>cases r; rfl
 | int _=>obtain⟨t,rfl⟩:=r; rfl
 | str _=>obtain⟨t,rfl⟩:=r; rfl
 | byt _=>obtain⟨t,rfl⟩:=r; rfl
 | flt _=>obtain⟨t,rfl⟩:=r; rfl
 | ref _=>cases r; rfl
 | ty _=>cases r; rfl
theorem RelV.inj{x y:V}{u:Value}(r:RelV x u)(q:RelV y u):x=y:=Option.some.inj (r.abs.symm.trans q.abs)
theorem Vals.inj:∀ {xs ys:List V} {us:List Value},Vals xs us->Vals ys us->xs=ys
 | _,_,_,.nil,.nil=>rfl
 | _,_,_,.cons r t,.cons r' t'=>by rw[r.inj r',Vals.inj t t']
section
variable {X:Cx}{pins:List (Addr×Obj)}{σ:St}{H:Hp}{s:Shared}{a:Addr}{xs ys:List V}
theorem SqL.of{K:PySem.W.Frag}(h:H a=some (.lst xs)):SqL K H a xs:=.inl (.inl h)
theorem SqT.of{K:PySem.W.Frag}(h:H a=some (.tup xs)):SqT K H a xs:=.inl (.inl h)
theorem Inv.list(I:Inv X pins σ H s)(h:SqL X.K H a xs):∃ its:List Value,Vals xs its/\PlainL s.heap a its.toArray/\xs.length<=sizeLine:=by
 rcases h with h | ⟨o,its,n,hk,hc,hd,hs,hz,r⟩
 ·obtain⟨z,its,n,r,e⟩:=h.ok I.hok
  exact⟨its,r,⟨_,n,e,rfl,rfl,rfl⟩,z⟩
 ·refine⟨its.toList,r,⟨o,n,I.kIn a o hk,hc,hd,by simpa using hs⟩,?_⟩
  have e:=r.length
  simp only[Array.length_toList]at e
  omega
theorem Inv.tuple(I:Inv X pins σ H s)(h:SqT X.K H a xs):∃ its:List Value,Vals xs its/\IsTup s.heap a its.toArray/\xs.length<=sizeLine:=by
 rcases h with h | ⟨o,its,n,hk,hc,hs,hz,r⟩
 ·obtain⟨z,its,r,p⟩:=h.ok I.hok
  exact⟨its,r,p.tup,z⟩
 ·refine⟨its.toList,r,⟨o,I.kIn a o hk,hc,n,by simpa using hs⟩,?_⟩
  have e:=r.length
  simp only[Array.length_toList]at e
  omega
theorem Inv.list_inj(I:Inv X pins σ H s)(h:SqL X.K H a xs)(h':SqL X.K H a ys):xs=ys:=by
 obtain⟨its,r,⟨o,n,e,_,_,d⟩,_⟩:=I.list h
 obtain⟨its',r',⟨o',n',e',_,_,d'⟩,_⟩:=I.list h'
 rw[e]at e'; cases e'
 rw[d]at d'
 injection d' with d1 _
 have:its=its':=by simpa using congrArg Array.toList d1
 subst this
 exact r.inj r'
theorem Inv.tuple_inj(I:Inv X pins σ H s)(h:SqT X.K H a xs)(h':SqT X.K H a ys):xs=ys:=by
 obtain⟨its,r,⟨o,e,_,n,d⟩,_⟩:=I.tuple h
 obtain⟨its',r',⟨o',e',_,n',d'⟩,_⟩:=I.tuple h'
 rw[e]at e'; cases e'
 rw[d]at d'
 injection d' with d1 _
 have:its=its':=by simpa using congrArg Array.toList d1
 subst this
 exact r.inj r'
end
abbrev Cx.wish(X:Cx)(E:Value->Shared->Prop):Cx:={ X with xe:=E }
abbrev Cx.nox(X:Cx):Cx:=X.wish fun _ _=>False
theorem Cx.Ok.wish{X:Cx}(ok:X.Ok)(E:Value->Shared->Prop):(X.wish E).Ok :=
 ⟨ok.mod,ok.kind,ok.glob,ok.blt,ok.above,ok.inj,ok.has,ok.cab,ok.hd,ok.frames,ok.stk,ok.exf,ok.bs,ok.bsz,ok.noex,ok.exfs,ok.funs,ok.frf⟩
theorem Cx.Ok.unwish{X:Cx}{E:Value->Shared->Prop}(ok:(X.wish E).Ok):X.Ok :=
 ⟨ok.mod,ok.kind,ok.glob,ok.blt,ok.above,ok.inj,ok.has,ok.cab,ok.hd,ok.frames,ok.stk,ok.exf,ok.bs,ok.bsz,ok.noex,ok.exfs,ok.funs,ok.frf⟩
section
variable {X:Cx}{pins:List (Addr×Obj)}{σ:St}{H:Hp}{s:Shared}{E:Value->Shared->Prop}
theorem Inv.wish(I:Inv X pins σ H s)(E:Value->Shared->Prop):Inv (X.wish E) pins σ H s:=⟨I.ok.wish E,I.os,I.bare,I.base,I.loc,I.cell,I.free,I.freeC,I.pin,I.hok,I.len⟩
theorem Inv.unwish(I:Inv (X.wish E) pins σ H s):Inv X pins σ H s:=⟨I.ok.unwish,I.os,I.bare,I.base,I.loc,I.cell,I.free,I.freeC,I.pin,I.hok,I.len⟩
theorem SP.unwish{D:Ends}{f:Flow}{s':Shared}(h:SP (X.wish E) pins D f s'):SP X pins D f s':=by
 cases f with
 | next=>obtain⟨σ',H',I,q⟩:=h; exact⟨σ',H',I.unwish,q⟩
 | brk=>obtain⟨σ',H',I,q⟩:=h; exact⟨σ',H',I.unwish,q⟩
 | cont=>obtain⟨σ',H',I,q⟩:=h; exact⟨σ',H',I.unwish,q⟩
 | ret u=>obtain⟨v,σ',H',I,r,q⟩:=h; exact⟨v,σ',H',I.unwish,r,q⟩
theorem PSs.nox{st:List Stmt}{t:TS}(h:PSs X.nox st t):PSs X st t:=fun pins s σ H D I hw =>
 wpAny_mono (h pins s σ H D (I.wish _) hw) (fun _ _ q=>q.unwish) fun _ _ z=>False.elim z
end
section
variable {X:Cx}{st:Stmt}{rest:List Stmt}{t u:TS}{e:Expr}{te:TE}{pos:Pos}
def tNext:TS:=fun D σ H=>D.nx σ H
def tSeq(t u:TS):TS:=fun D σ H=>t { D with nx:=u D } σ H
theorem zEy:PSs X [] tNext:=fun _ _ σ H _ I h=>wpAny_execs_nil ⟨σ,H,I,h⟩
theorem zDn(h1:PS X st t)(h2:PSs X rest u):PSs X (st::rest) (tSeq t u):=by
 intro pins s σ H D I h
 refine wpAny_execs_cons (thn (h1 pins s σ H { D with nx:=u D } I h) fun f s1 q=>?_)
 cases f with
 | next =>
  obtain⟨σ',H',I',q⟩:=q
  exact h2 pins s1 σ' H' D I' q
 | ret v=>exact q
 | brk=>exact q
 | cont=>exact q
theorem zCk(h1:PS X st t):PSs X [st] t:=by
 intro pins s σ H D I h
 refine wpAny_execs_cons (thn (h1 pins s σ H D I h) fun f s1 q=>?_)
 cases f with
 | next=>exact wpAny_execs_nil q
 | ret v=>exact q
 | brk=>exact q
 | cont=>exact q
theorem Inv.quiet{pins:List (Addr×Obj)}{σ:St}{H:Hp}{s:Shared}(I:Inv X pins σ H s):interactive X.env=false:=by simp[interactive,I.ok.kind]
def tDrop(te:TE):TS:=fun D σ H=>te σ H fun _ H1=>D.nx σ H1
theorem zIO(he:PE X e te)(hs:swapsWith e none pos.line X.env=pure false:=by rfl):PS X (.Expr e pos) (tDrop te):=by
 intro pins s σ H D I h
 exact wpAny_Expr_any (thn (he pins s σ H _ I h) fun v s1 ⟨x,H1,I1,r1,q1⟩=>⟨σ,H1,I1,q1⟩) I.quiet hs
def tRet(te:TE):TS:=fun D σ H=>te σ H D.rt
theorem zFy(he:PE X e te):PS X (.Return (some e) pos) (tRet te):=by
 intro pins s σ H D I h
 exact wpAny_Return_some (thn (he pins s σ H _ I h) fun v s1 ⟨x,H1,I1,r1,q1⟩=>⟨x,σ,H1,I1,r1,q1⟩)
def tIfS(c:TT)(t u:TS):TS:=fun D σ H=>c σ H fun b H1=>if b=true then t D σ H1 else u D σ H1
theorem zHy{c:Expr}{a b:List Stmt}{tc:TT}(hc:PT X c tc)(ha:PSs X a t)(hb:PSs X b u):PS X (.If c a b pos) (tIfS tc t u):=by
 intro pins s σ H D I h
 refine wpAny_If (thn (hc pins s σ H _ I h) fun d s1 ⟨H1,I1,q1⟩=>?_)
 cases d with
 | true=>exact ha pins s1 σ H1 D I1 q1
 | false=>exact hb pins s1 σ H1 D I1 q1
end
abbrev TG:=V->St->Hp->(St->Hp->Prop)->Prop
abbrev TGs:=List V->St->Hp->(St->Hp->Prop)->Prop
def PG(X:Cx)(target:Expr)(t:TG):Prop :=
 ∀ (pins:List (Addr×Obj)) (s:Shared) (σ:St) (H:Hp) (v:V) (u:Value) (Q:St->Hp->Prop),Inv X pins σ H s->RelV v u->t v σ H Q ->
  wpAny (model X.prog X.w) X.A (assign target X.env u) (fun _ s'=>∃ σ' H',Inv X pins σ' H' s'/\Q σ' H') X.xe s
def PGs(X:Cx)(ts:List Expr)(t:TGs):Prop :=
 ∀ (pins:List (Addr×Obj)) (s:Shared) (σ:St) (H:Hp) (vs:List V) (us:List Value) (Q:St->Hp->Prop),Inv X pins σ H s->Vals vs us->t vs σ H Q ->
  wpAny (model X.prog X.w) X.A (assignInOrder ((assignEach ts X.env).map (·.2)) us) (fun _ s'=>∃ σ' H',Inv X pins σ' H' s'/\Q σ' H') X.xe s
abbrev TSet:=V->V->V->Hp->(Hp->Prop)->Prop
def PSet(X:Cx)(t:TSet):Prop :=
 ∀ (pins:List (Addr×Obj)) (s:Shared) (σ:St) (H:Hp) (o i v:V) (ov iv u:Value) (Q:Hp->Prop),Inv X pins σ H s->RelV o ov->RelV i iv->RelV v u->t o i v H Q ->
  wpAny (model X.prog X.w) X.A (setItem ov iv u) (fun _ s'=>∃ H',Inv X pins σ H' s'/\Q H') X.xe s
section
variable {X:Cx}{pos:Pos}
def gName(i:Nat):TG:=fun v σ H Q=>Q (σ.set i (some v)) H
theorem zCg{i:Nat}{x:Str}(hN:X.N.Nodup)(hi:X.N[i]?=some x)(hx:Loc X.env.scope x)(hf:X.fn x=true\/X.env.scope.names.lookup x=some .local:=by first | exact .inl rfl | exact .inr rfl | assumption):PG X (.Name x pos) (gName i):=by
 intro pins s σ H v u Q I r h
 exact wpAny_assign_Name (zAO I hN hi hx r (fun s' I'=>⟨_,H,I',h⟩) hf)
def gNil:TGs:=fun vs σ H Q=>vs=[]/\Q σ H
def gCons(t:TG)(u:TGs):TGs:=fun vs σ H Q=>∃ v r,vs=v::r/\t v σ H fun σ' H'=>u r σ' H' Q
theorem zEo:PGs X [] gNil:=by
 intro pins s σ H vs us Q I r h
 obtain⟨e,h⟩:=h
 subst e
 cases r
 exact assignInOrder_nil ⟨σ,H,I,h⟩
theorem zBr{e:Expr}{es:List Expr}{t:TG}{u:TGs}(h1:PG X e t)(h2:PGs X es u)
  (hs:(assignEach (e::es) X.env).map (·.2)=assign e X.env::(assignEach es X.env).map (·.2):=by rfl):PGs X (e::es) (gCons t u):=by
 intro pins s σ H vs us Q I r h
 obtain⟨v,vr,e1,h⟩:=h
 subst e1
 cases r with
 | cons r rr =>
  rw[hs]
  refine assignInOrder_cons (thn (h1 pins s σ H _ _ _ I r h) fun _ s1 ⟨σ1,H1,I1,q1⟩=>?_)
  exact h2 pins s1 σ1 H1 _ _ Q I1 rr q1
def gTup(K:PySem.W.Frag)(n:Nat)(t:TGs):TG:=fun v σ H Q=>∃ a xs,v=.ref a/\SqT K H a xs/\xs.length=n/\t xs σ H Q
theorem zJF{es:List Expr}{k:Nat}{t:TGs}{n:Nat}(hc:X.calm=true)(h:PGs X es t)
  (hn:(assignEach es X.env).length=n:=by rfl) (hst:(assignEach es X.env).findIdx? (·.1)=none:=by rfl):PG X (.Tuple es k pos) (gTup X.K n t):=by
 intro pins s σ H v u Q I r hw
 obtain⟨a,xs,e1,hq,hl,hw⟩:=hw
 subst e1
 cases r
 obtain⟨its,rv,ht,hz⟩:=I.tuple hq
 refine assign_Tuple_tuple (I.ok.hd hc) ht (by simp[hn,← hl,rv.length]) hst fun h' hx=>?_
 have I1:Inv X pins σ H { s with heap:=h' }:=I.kept (t':=s.toks) fun b o e=>hx b o (Nat.ne_of_lt (Heap.lt_size e)) e
 exact h pins _ σ H xs _ Q I1 (by simpa using rv) hw
def gSub(to ti:TE)(t:TSet):TG:=fun v σ H Q=>to σ H fun o H1=>ti σ H1 fun i H2=>t o i v H2 fun H3=>Q σ H3
theorem zDQ{o i:Expr}{to ti:TE}{t:TSet}(ho:PE X o to)(hi:PE X i ti)(hs:PSet X t)
  (ha:∀ v,assign (.Subscript o i pos) X.env v=(do
   let ov ← holding [v] (eval o X.env)
   let iv ← holding [v,ov] (eval i X.env)
   standAt pos
   holding [v,ov,iv] (setItem ov iv v)
   release [v,ov,iv] []):=by intro _; rfl):PG X (.Subscript o i pos) (gSub to ti t):=by
 intro pins s σ H v u Q I r h
 rw[ha]
 refine wpAny_bind (wpAny_holding (thn (ho pins s σ H _ I h) fun ov s1 ⟨x,H1,I1,r1,q1⟩=>?_))
 refine wpAny_bind (wpAny_holding (thn (hi pins s1 σ H1 _ I1 q1) fun iv s2 ⟨y,H2,I2,r2,q2⟩=>?_))
 refine wpAny_bind (wpAny_standAt (wpAny_bind (wpAny_holding (thn (hs pins s2 σ H2 x y v ov iv u _ I2 r1 r2 r q2) fun _ s3 ⟨H3,I3,q3⟩=>?_))))
 exact wpAny_release ⟨σ,H3,I3,q3⟩
def tAsg(te:TE)(g:TG):TS:=fun D σ H=>te σ H fun x H1=>g x σ H1 D.nx
theorem zD7{tg e:Expr}{te:TE}{g:TG}(he:PE X e te)(hg:PG X tg g)(hs:swapsWithSole [tg] e pos.line X.env=pure false:=by rfl)(hw:swappedStores [tg] e X.env=pure none:=by rfl)
  (h1:(assignEach [tg] X.env).map (·.2)=[assign tg X.env]:=by rfl):PS X (.Assign [tg] e pos) (tAsg te g):=by
 intro pins s σ H D I h
 refine wpAny_Assign_stores (thn (he pins s σ H _ I h) fun v s1 ⟨x,H1,I1,r1,q1⟩=>?_) hs hw
 rw[h1]
 exact thn (hg pins s1 σ H1 x v _ I1 r1 q1) fun _ s2 q=>q
theorem zGu{i:Nat}{x:Str}{e:Expr}{te:TE}{pos':Pos}(hN:X.N.Nodup)(hi:X.N[i]?=some x)(hx:Loc X.env.scope x)(he:PE X e te)(hs:swapsWith e (some (.Name x pos')) pos.line X.env=pure false:=by rfl)(hf:X.fn x=true\/X.env.scope.names.lookup x=some .local:=by first | exact .inl rfl | exact .inr rfl | assumption) :
  PS X (.Assign [.Name x pos'] e pos) (tAsg te (gName i)):=by
 intro pins s σ H D I h
 refine wpAny_Assign_Name (thn (he pins s σ H _ I h) fun v s1 ⟨y,H1,I1,r1,q1⟩=>?_) hs
 exact zAO I1 hN hi hx r1 (fun s2 I2=>⟨_,H1,I2,q1⟩) hf
def tPar(i j:Nat)(ta:TA):TS:=fun D σ H=>ta σ H fun vs H1=>∃ v w,vs=[v,w]/\D.nx ((σ.set i (some v)).set j (some w)) H1
theorem zJW{i j:Nat}{x y:Str}{a b:Expr}{ta:TA}{px py pt:Pos}{kt k2 pt2}(hc:X.calm=true)(hN:X.N.Nodup)(hi:X.N[i]?=some x)(hj:X.N[j]?=some y)(hij:i≠j)
  (hx:X.env.scope.names.lookup x=some .local) (hy:X.env.scope.names.lookup y=some .local) (ha:PA X [a,b] ta)
  (hw:swappedStores [.Tuple [.Name x px,.Name y py] kt pt] (.Tuple [a,b] k2 pt2) X.env=pure (some [x,y]))
  (hs:swapsWithSole [.Tuple [.Name x px,.Name y py] kt pt] (.Tuple [a,b] k2 pt2) pos.line X.env=pure false:=by rfl) :
  PS X (.Assign [.Tuple [.Name x px,.Name y py] kt pt] (.Tuple [a,b] k2 pt2) pos) (tPar i j ta):=by
 intro pins s σ H D I h
 rw[exec_Assign_arm]
 refine wpAny_bind (wpAny_standAt ?_)
 rw[hs]
 refine wpAny_bind (wpAny_pure ?_)
 rw[if_neg (by decide)]
 refine wpAny_bind (Tuple_ (thn (ha _ pins s σ H _ I h) fun us s1 ⟨vs,H1,I1,r1,q1⟩=>?_))
 obtain⟨v,w,e1,q1⟩:=q1
 subst e1
 obtain⟨u1,u2,rfl,rv,rw'⟩:∃ u1 u2,us=[u1,u2]/\RelV v u1/\RelV w u2:=by
  cases r1 with
  | cons p q =>
   cases q with
   | cons p' q' =>
    cases q'
    exact⟨_,_,rfl,p,p'⟩
 refine wpAny_newObj_type ?_ (by show 2<=sizeLine; decide)
 have I2:Inv X pins σ H1 { s1 with heap:=s1.heap.push { cls:=.type "tuple",data:=.seq [u1,u2].toArray } }:=I1.kept (t':=s1.toks) fun b o e=>Heap.get?_push_of_some _ e
 rw[hw]
 refine wpAny_bind (wpAny_pure ?_)
 show wpAny (model X.prog X.w) X.A (do rule "assign.swapped-stores"; let items ← unpackItems (.ref s1.heap.objs.size) 2 none; assignInOrder [fun v=>bindName X.env y v,fun v=>bindName X.env x v] items.reverse; pure Flow.next) _ _ _
 refine wpAny_bind (wpAny_rule (wpAny_bind (unpackItems_tuple (items:=#[u1,u2]) (I.ok.hd hc) (IsTup.new s1.heap _) fun h' hx'=>?_)))
 have I3:=I2.kept (h':=h') (t':=s1.toks) fun b o e=>hx' b o (Nat.ne_of_lt (Heap.lt_size e)) e
 show wpAny _ _ (assignInOrder [fun v=>bindName X.env y v,fun v=>bindName X.env x v] [u2,u1] >>= fun _=>pure Flow.next) _ _ _
 refine wpAny_bind (assignInOrder_cons (wpAny_bindName (zAO I3 hN hj (.inl hy) rw' (fun s2 I4=>?_) (.inr hy))))
 refine assignInOrder_cons (wpAny_bindName (zAO I4 hN hi (.inl hx) rv (fun s3 I5=>assignInOrder_nil (wpAny_pure ?_)) (.inr hx)))
 rw[List.set_comm _ _ (Ne.symm hij)]at I5
 exact⟨_,H1,I5,q1⟩
end
section
variable {X:Cx}{pos:Pos}
def tWhile(c:TT)(tb:TS):TS:=fun D σ H=>∃ W:Nat->St->Hp->Prop,(∃ m,W m σ H)/\∀ m σ H,W m σ H ->
 c σ H fun b H1=>if b=true then ∃ N:St->Hp->Prop,(∀ σ' H',N σ' H'->∃ m',m' < m/\W m' σ' H')/\tb { D with nx:=N,ct:=N,bk:=D.nx } σ H1 else D.nx σ H1
theorem zHJ{c:Expr}{body:List Stmt}{tc:TT}{tb:TS}(hp:PassesOwn (model X.prog X.w) X.A X.env X.xe)(hc:PT X c tc)(hb:PSs X body tb):PS X (.While c body [] pos) (tWhile tc tb):=by
 intro pins s σ H D I h
 obtain⟨W,⟨m0,w0⟩,turn⟩:=h
 refine wpAny_While (codeAny_whileLoop (fun n s'=>∃ σ' H',Inv X pins σ' H' s'/\W n σ' H') ?_ m0 ⟨σ,H,I,w0⟩)
 rintro n s1 ⟨σ1,H1,I1,w1⟩
 refine wpAny_passesOwn hp (thn (hc pins s1 σ1 H1 _ I1 (turn n σ1 H1 w1)) fun b s2 ⟨H2,I2,q2⟩=>?_)
 cases b with
 | true =>
  obtain⟨N,hN,q2⟩:=q2
  rw[if_pos rfl]
  refine wpAny_passesOwn hp (thn (hb pins s2 σ1 H2 _ I2 q2) fun f s3 q3=>?_)
  cases f with
  | next =>
   obtain⟨σ3,H3,I3,n3⟩:=q3
   obtain⟨m',hm,w3⟩:=hN σ3 H3 n3
   exact⟨m',hm,σ3,H3,I3,w3⟩
  | cont =>
   obtain⟨σ3,H3,I3,n3⟩:=q3
   obtain⟨m',hm,w3⟩:=hN σ3 H3 n3
   exact⟨m',hm,σ3,H3,I3,w3⟩
  | brk=>exact q3
  | ret v=>exact q3
 | false =>
  rw[if_neg Bool.false_ne_true]
  exact wpAny_execs_nil ⟨σ1,H2,I2,q2⟩
end
structure It where
 go:Nat->Hp->Prop
 yld:Nat->Hp->V->Hp->Prop
 stop:Nat->Hp->Prop
def FpOk(X:Cx)(pins:List (Addr×Obj))(H:Hp)(b:Addr):Prop :=
 H b=none/\b≠X.env.locals/\b∉X.fs/\(b∈X.ex\/X.s₀.heap.objs.size<=b)/\(∀ x c,X.env.cells.lookup x=some c->c≠b)/\∀ p∈X.pn++pins,p.1≠b
theorem Inv.fpOk{X:Cx}{pins:List (Addr×Obj)}{σ:St}{H H':Hp}{s:Shared}{b:Addr}(I:Inv X pins σ H s)(hb:s.heap.objs.size<=b)(hn:H' b=none):FpOk X pins H' b:=by
 refine⟨hn,Nat.ne_of_gt (Nat.lt_of_lt_of_le I.lt hb),I.nofs hb,.inr (Nat.le_trans I.sz hb),fun x c e z=>?_,fun p hp z=>?_⟩
 ·obtain⟨v,q⟩:=I.cell x c e
  exact absurd (Nat.lt_of_lt_of_le q.lt (by rw[z]; exact hb)) (Nat.lt_irrefl _)
 ·exact absurd (Nat.lt_of_lt_of_le (Heap.lt_size (I.pin p hp).1) (by rw[z]; exact hb)) (Nat.lt_irrefl _)
structure Turn(P:Program)(w:World)(K:PySem.W.Frag)(tg:Expr)(J:It)(fp:List Addr)(it:Addr)(tn:Nat->Heap->Prop):Prop where
 mem:it∈fp
 obj:∀ i h,tn i h->∀ b∈fp,∃ o,h.get? b=some o/\∀ v,o.data≠.cell v
 keep:∀ i h h',tn i h->(∀ b∈fp,∀ o,h.get? b=some o->h'.get? b=some o)->tn i h'
 item:∀ (X:Cx),X.prog=P->X.w=w->X.K=K->X.calm=true->∀ (i:Nat) (pins:List (Addr×Obj)) (s:Shared) (σ:St) (H:Hp) (E:Value->Shared->Prop),Inv X pins σ H s->(∀ b∈fp,FpOk X pins H b)->tn i s.heap->J.go i H ->
  wpAny (model P w) X.A (pyNext (.ref it)) (fun r s1=>∃ u,r=some u /\
   wpAny (model P w) X.A (letOwnedTupleGo tg (.ref it) u) (fun _ s2=>∃ x H',Inv X pins σ H' s2/\RelV x u/\J.yld i H x H'/\tn (i+1) s2.heap/\∀ b∈fp,H' b=none) E s1) E s
 done:∀ (X:Cx),X.prog=P->X.w=w->X.K=K->X.calm=true->∀ (i:Nat) (pins:List (Addr×Obj)) (s:Shared) (σ:St) (H:Hp) (E:Value->Shared->Prop),Inv X pins σ H s->(∀ b∈fp,FpOk X pins H b)->tn i s.heap->J.stop i H ->
  wpAny (model P w) X.A (pyNext (.ref it)) (fun r s1=>r=none/\Inv X pins σ H s1) E s
 self:∀ (A:Around) (i:Nat) (s:Shared) (Q:Value->Shared->Prop) (E:Value->Shared->Prop),tn i s.heap->Q (.ref it) s->wpAny (model P w) A (pyIter (.ref it)) Q E s
abbrev TI:=St->Hp->(It->Hp->Prop)->Prop
def PIE(X:Cx)(pins:List (Addr×Obj))(σ:St)(tg:Expr)(R:It->Hp->Prop)(itv:Value)(s2:Shared):Prop :=
 ∃ (it:Addr) (fp:List Addr) (tn:Nat->Heap->Prop) (J:It) (H':Hp),itv=.ref it/\Inv X pins σ H' s2/\Turn X.prog X.w X.K tg J fp it tn/\tn 0 s2.heap/\(∀ b∈fp,FpOk X pins H' b)/\R J H'
def PI(X:Cx)(tg iter:Expr)(wi:TI):Prop :=
 ∀ (pins:List (Addr×Obj)) (s:Shared) (σ:St) (H:Hp) (R:It->Hp->Prop),Inv X pins σ H s->wi σ H R ->
  wpAny (model X.prog X.w) X.A (eval iter X.env) (fun v s1=>wpAny (model X.prog X.w) X.A (pyIter v) (PIE X pins σ tg R) X.xe s1) X.xe s
theorem zDP{M:Model}{A:Around}{E:Value->Shared->Prop}{s:Shared}{tg:Expr}{it:Addr}{u:Value}{o:Obj}{n:String}{vs:Array Value}{Q:Unit->Shared->Prop}(ho:s.heap.get? it=some o)(hc:o.cls=.type n)(hd:o.data=.fields vs)
  (hn:["enumerate","zip","dict_itemiterator","dict_reverseitemiterator","odict_iterator","itertools.zip_longest","itertools.pairwise"].contains n=false) (hQ:Q () s):wpAny M A (letOwnedTupleGo tg (.ref it) u) Q E s:=by
 unfold letOwnedTupleGo
 cases tg <;> first
  | exact wpAny_pure hQ
  | (cases u <;> first
    | exact wpAny_pure hQ
    | (
      refine wpAny_bind (wpAny_load ho ?_)
      rw[hc,hd]
      show wpAny M A (if (["enumerate","zip","dict_itemiterator","dict_reverseitemiterator","odict_iterator","itertools.zip_longest","itertools.pairwise"].contains n && vs[0]? == some (rawInt _))=true then _ else _) Q E s
      rw[if_neg (by intro h; rw[hn,Bool.false_and]at h; cases h)]
      exact wpAny_pure hQ))
def Itl(K:PySem.W.Frag)(a:Addr):It :=
 ⟨fun i H=>∃ xs x,SqL K H a xs/\xs[i]?=some x,fun i H x H'=>H'=H/\∀ xs,SqL K H a xs->xs[i]?=some x,fun i H=>∃ xs,SqL K H a xs/\xs.length<=i⟩
def Itt(K:PySem.W.Frag)(a:Addr):It :=
 ⟨fun i H=>∃ xs x,SqT K H a xs/\xs[i]?=some x,fun i H x H'=>H'=H/\∀ xs,SqT K H a xs->xs[i]?=some x,fun i H=>∃ xs,SqT K H a xs/\xs.length<=i⟩
def Itr(lo:Int)(n:Nat):It:=⟨fun i _=>i < n,fun i H x H'=>H'=H/\x=.int (lo+i),fun i _=>n<=i⟩
theorem zGY{P:Program}{w:World}{K:PySem.W.Frag}{tg:Expr}(a it:Addr):Turn P w K tg (Itl K a) [it] it (fun i h=>h.IsListIter it a i) where
 mem:=by simp
 obj:=fun i h st b hb=>by
  have e:b=it:=by simpa using hb
  subst e
  obtain⟨o,e,c,d⟩:=st
  exact⟨o,e,fun v z=>by rw[d]at z; cases z⟩
 keep:=fun i h h' st k=>st.at fun o e=>k it (by simp) o e
 item:=by
  intro X hP hw hK hc i pins s σ H E I hf st hg
  subst hP hw hK
  obtain⟨xs,x,hq,hx⟩:=hg
  obtain⟨its,rv,p,hz⟩:=I.list hq
  obtain⟨u,hu,ru⟩:=rv.get hx
  obtain⟨f0,f1,f2,f3,f4,f5⟩:=hf it (by simp)
  refine wpAny_pyNext_list_item st p.isList (x:=u) (by simpa using hu) fun h' st' sb=>?_
  have I1:Inv X pins σ H { s with heap:=h' }:=I.turned (t':=s.toks) (fun b o hb e=>(sb.2 b hb).trans e) f0 f1 f3 f4 f5
  obtain⟨o,e,c,d⟩:=id st'
  exact⟨u,rfl,zDP (s:={ s with heap:=h' }) e c d (by decide) ⟨x,H,I1,ru,⟨rfl,fun ys hy=>by rw[I.list_inj hy hq]; exact hx⟩,st',fun b hb=>(hf b hb).1⟩⟩
 done:=by
  intro X hP hw hK hc i pins s σ H E I hf st hg
  subst hP hw hK
  obtain⟨xs,hq,hx⟩:=hg
  obtain⟨its,rv,p,hz⟩:=I.list hq
  obtain⟨f0,f1,f2,f3,f4,f5⟩:=hf it (by simp)
  have hl:=rv.length
  exact wpAny_pyNext_list_end (I.ok.hd hc) st p.isList (by simp; omega) fun h' eb=>⟨rfl,I.turned (t':=s.toks) (fun b o hb e=>eb b o hb e) f0 f1 f3 f4 f5⟩
 self:=fun _ _ _ _ _ st h=>wpAny_pyIter_listiter st h
theorem zFJ{P:Program}{w:World}{K:PySem.W.Frag}{tg:Expr}(a it:Addr):Turn P w K tg (Itt K a) [it] it (fun i h=>h.IsTupleIter it a i) where
 mem:=by simp
 obj:=fun i h st b hb=>by
  have e:b=it:=by simpa using hb
  subst e
  obtain⟨o,e,c,d⟩:=st
  exact⟨o,e,fun v z=>by rw[d]at z; cases z⟩
 keep:=fun i h h' st k=>st.at fun o e=>k it (by simp) o e
 item:=by
  intro X hP hw hK hc i pins s σ H E I hf st hg
  subst hP hw hK
  obtain⟨xs,x,hq,hx⟩:=hg
  obtain⟨its,rv,p,hz⟩:=I.tuple hq
  obtain⟨u,hu,ru⟩:=rv.get hx
  obtain⟨f0,f1,f2,f3,f4,f5⟩:=hf it (by simp)
  refine wpAny_pyNext_tuple_item st (show s.heap.IsTuple a its.toArray from p) (x:=u) (by simpa using hu) fun h' st' sb=>?_
  have I1:Inv X pins σ H { s with heap:=h' }:=I.turned (t':=s.toks) (fun b o hb e=>(sb.2 b hb).trans e) f0 f1 f3 f4 f5
  obtain⟨o,e,c,d⟩:=id st'
  exact⟨u,rfl,zDP (s:={ s with heap:=h' }) e c d (by decide) ⟨x,H,I1,ru,⟨rfl,fun ys hy=>by rw[I.tuple_inj hy hq]; exact hx⟩,st',fun b hb=>(hf b hb).1⟩⟩
 done:=by
  intro X hP hw hK hc i pins s σ H E I hf st hg
  subst hP hw hK
  obtain⟨xs,hq,hx⟩:=hg
  obtain⟨its,rv,p,hz⟩:=I.tuple hq
  obtain⟨f0,f1,f2,f3,f4,f5⟩:=hf it (by simp)
  have hl:=rv.length
  exact wpAny_pyNext_tuple_end (I.ok.hd hc) st (show s.heap.IsTuple a its.toArray from p) (by simp; omega) fun h' eb=>⟨rfl,I.turned (t':=s.toks) (fun b o hb e=>eb b o hb e) f0 f1 f3 f4 f5⟩
 self:=fun _ _ _ _ _ st h=>wpAny_pyIter_tupleiter st h
theorem zFa{P:Program}{w:World}{K:PySem.W.Frag}{tg:Expr}(it:Addr)(lo:Int)(n:Nat):Turn P w K tg (Itr lo n) [it] it (fun i h=>IsRangeIter h it (lo+(i:Nat) * 1) ((n:Int) - (i:Nat)) 1) where
 mem:=by simp
 obj:=fun i h st b hb=>by
  have e:b=it:=by simpa using hb
  subst e
  exact⟨_,st,fun v z=>by
   have z':Data.fields _=Data.cell v:=z
   cases z'⟩
 keep:=fun i h h' st k=>k it (by simp) _ st
 item:=by
  intro X hP hw hK hc i pins s σ H E I hf st hg
  subst hP hw hK
  obtain⟨f0,f1,f2,f3,f4,f5⟩:=hf it (by simp)
  have W:=Walks.range (prog:=X.prog) (w:=X.w) (I.ok.hd hc) it lo 1 n
  refine W.item i s _ _ hg st fun v h' tk hv st' kk=>?_
  obtain⟨t,rfl⟩:=hv
  have I1:Inv X pins σ H { s with heap:=h',toks:=tk }:=I.turned (fun b o hb e=>kk b o (by simpa using hb) e) f0 f1 f3 f4 f5
  refine⟨_,rfl,zDP (s:={ s with heap:=h',toks:=tk }) (n:="range_iterator") st' rfl rfl (by decide) ⟨.int (lo+i),H,I1,⟨t,?_⟩,⟨rfl,rfl⟩,st',fun b hb=>(hf b hb).1⟩⟩
  rw[Int.mul_one]
 done:=by
  intro X hP hw hK hc i pins s σ H E I hf st hg
  subst hP hw hK
  obtain⟨f0,f1,f2,f3,f4,f5⟩:=hf it (by simp)
  exact wpAny_pyNext_range_end (I.ok.hd hc) st (by have:n<=i:=hg; omega) fun h' eb=>⟨rfl,I.turned (t':=s.toks) (fun b o hb e=>eb b o hb e) f0 f1 f3 f4 f5⟩
 self:=fun _ _ _ _ _ st h=>wpAny_pyIter_rangeiter st h
section
variable {X:Cx}{tg:Expr}
theorem zDS{pins:List (Addr×Obj)}{σ:St}{H:Hp}{s:Shared}{R:It->Hp->Prop}{E:Value->Shared->Prop}{lo hi:Int}{t u v:Tok}{tk:Nat}(I:Inv X pins σ H s)(h1:-(2 ^ 62)<=lo)(h2:lo < 2 ^ 62)(h3:-(2 ^ 62)<=hi)(h4:hi < 2 ^ 62)
  (q:R (Itr lo (hi - lo).toNat) H):wpAny (model X.prog X.w) X.A (pyIter (.ref s.heap.objs.size)) (PIE X pins σ tg R) E { s with heap:=s.heap.push { cls:=.type "range",data:=.fields #[.int lo t,.int hi u,.int 1 v] },toks:=tk }:=by
 refine wpAny_pyIter_range (IsRange.new ..) (small_one h1 h2 h3 h4) ?_
 have I1:Inv X pins σ H { s with heap:=s.heap.push { cls:=.type "range",data:=.fields #[.int lo t,.int hi u,.int 1 v] },toks:=tk }:=I.kept fun b o e=>Heap.get?_push_of_some _ e
 refine⟨(s.heap.push { cls:=.type "range",data:=.fields #[.int lo t,.int hi u,.int 1 v] }).objs.size,[(s.heap.push { cls:=.type "range",data:=.fields #[.int lo t,.int hi u,.int 1 v] }).objs.size],_,_,H,rfl,
  I1.kept (t':=tk) fun b o e=>Heap.get?_push_of_some _ e,zFa _ lo (hi - lo).toNat,?_,fun b hb=>?_,q⟩
 ·have e1:lo+((0:Nat):Int) * 1=lo:=by simp
  have e2:(((hi - lo).toNat:Nat):Int) - ((0:Nat):Int)=Builtin.Range.rangeSize lo hi 1:=by rw[rangeSize_one]; split <;> omega
  show IsRangeIter _ _ (lo+((0:Nat):Int) * 1) ((((hi - lo).toNat:Nat):Int) - ((0:Nat):Int)) 1
  rw[e1,e2]
  exact Heap.get?_push_size _ rfl
 ·have e:b=(s.heap.push { cls:=.type "range",data:=.fields #[.int lo t,.int hi u,.int 1 v] }).objs.size:=by simpa using hb
  subst e
  exact I1.fpOk (Nat.le_refl _) (I1.hok.fresh (Nat.le_refl _))
def iRng1(ta:TA):TI:=fun σ H R=>ta σ H fun vs H1=>∃ j:Int,vs=[.int j]/\-(2 ^ 62)<=j/\j < 2 ^ 62/\R (Itr 0 j.toNat) H1
def iRng2(ta:TA):TI:=fun σ H R=>ta σ H fun vs H1=>∃ i j:Int,vs=[.int i,.int j]/\(-(2 ^ 62)<=i/\i < 2 ^ 62/\-(2 ^ 62)<=j/\j < 2 ^ 62)/\R (Itr i (j - i).toNat) H1
theorem zGK{a:Expr}{ta:TA}{p pos:Pos}(hg:Gl X "range")(hm:X.mg "range"=none)(ha:PA X [a] ta)(hs:starEach [a] X.env=[(false,eval a X.env)]:=by rfl):PI X tg (.Call (.Name "range" p) [a] [] pos) (iRng1 ta):=by
 intro pins s σ H R I h
 refine Call_ (zAs I hg hm boot_range (PyProof.Rows.callWith_type1 (thn (ha pos pins s σ H _ I h) fun us s1 ⟨vs,H1,I1,r1,q1⟩=>?_) hs rfl))
 obtain⟨j,e,q1,q2,q⟩:=q1
 subst e
 cases r1 with
 | cons r rr =>
  cases rr
  obtain⟨t,rfl⟩:=r
  exact call_range_1 (zDS I1 (by omega) (by omega) q1 q2 (by simpa using q))
theorem zGJ{a b:Expr}{ta:TA}{p pos:Pos}(hg:Gl X "range")(hm:X.mg "range"=none)(ha:PA X [a,b] ta)(hs:starEach [a,b] X.env=[(false,eval a X.env),(false,eval b X.env)]:=by rfl)(hs2:starEach [b] X.env=[(false,eval b X.env)]:=by rfl) :
  PI X tg (.Call (.Name "range" p) [a,b] [] pos) (iRng2 ta):=by
 intro pins s σ H R I h
 refine Call_ (zAs I hg hm boot_range (PyProof.Rows.callWith_type1 (thn (ha pos pins s σ H _ I h) fun us s1 ⟨vs,H1,I1,r1,q1⟩=>?_) (by rw[hs,hs2]) (by rw[hs2]; rfl)))
 obtain⟨i,j,e,⟨q1,q2,q3,q4⟩,q⟩:=q1
 subst e
 cases r1 with
 | cons r rr =>
  cases rr with
  | cons r' rr =>
   cases rr
   obtain⟨t,rfl⟩:=r
   obtain⟨t',rfl⟩:=r'
   exact call_range_2 (zDS I1 q1 q2 q3 q4 q)
def tFor(wi:TI)(g:TG)(tb:TS):TS:=fun D σ H=>wi σ H fun J H1=>∃ W:Nat->Nat->St->Hp->Prop,(∃ m,W 0 m σ H1)/\∀ i m σ H,W i m σ H ->
 (J.stop i H/\D.nx σ H)\/(J.go i H/\∃ N:St->Hp->Prop,(∀ σ' H',N σ' H'->∃ m',m' < m/\W (i+1) m' σ' H')/\∀ x H',J.yld i H x H'->g x σ H' fun σ2 H2=>tb { D with nx:=N,ct:=N,bk:=D.nx } σ2 H2)
def pinsAt(fp:List Addr)(h:Heap):List (Addr×Obj):=fp.filterMap fun b=>(h.get? b).map fun o=>(b,o)
theorem zAp{fp:List Addr}{h:Heap}{b:Addr}{o:Obj}(hb:b∈fp)(e:h.get? b=some o):(b,o)∈pinsAt fp h:=List.mem_filterMap.mpr ⟨b,hb,by rw[e]; rfl⟩
theorem zF6{fp:List Addr}{h:Heap}{p:Addr×Obj}(hp:p∈pinsAt fp h):p.1∈fp/\h.get? p.1=some p.2:=by
 obtain⟨b,hb,e⟩:=List.mem_filterMap.mp hp
 cases q:h.get? b with
 | none=>rw[q]at e; cases e
 | some o =>
  rw[q]at e
  have e':(b,o)=p:=Option.some.inj e
  subst e'
  exact⟨hb,q⟩
theorem Inv.pinned{pins:List (Addr×Obj)}{σ:St}{H:Hp}{s:Shared}{fp:List Addr}(I:Inv X pins σ H s)(hf:∀ b∈fp,FpOk X pins H b)(ho:∀ b∈fp,∃ o,s.heap.get? b=some o/\∀ v,o.data≠.cell v):Inv X (pins++pinsAt fp s.heap) σ H s :=
 I.pins_of fun p hp=>(List.mem_append.mp hp).elim (fun z=>I.pin p (List.mem_append_right _ z)) fun z=>by
  obtain⟨hb,e⟩:=zF6 z
  obtain⟨f0,f1,f2,_⟩:=hf p.1 hb
  obtain⟨o,e',d⟩:=ho p.1 hb
  rw[e]at e'; cases e'
  exact⟨e,f0,f1,f2,d⟩
theorem Inv.unpinned{pins pl:List (Addr×Obj)}{σ:St}{H:Hp}{s:Shared}(I:Inv X (pins++pl) σ H s):Inv X pins σ H s:=I.pins_of fun p hp=>I.pin p (List.mem_append_right _ (List.mem_append_left _ hp))
theorem zJL{iter:Expr}{body:List Stmt}{wi:TI}{g:TG}{tb:TS}{pos:Pos}(hp:PassesOwn (model X.prog X.w) X.A X.env X.xe)(hc:X.calm=true)(hi:PI X tg iter wi)(hg:PG X tg g)(hb:PSs X body tb)
  (hs:∀ x,foldedSetIterable iter X.env x=pure x:=by intro _; rfl):PS X (.For tg iter body [] pos) (tFor wi g tb):=by
 intro pins s σ H D I h
 refine wpAny_For (thn (hi pins s σ H _ I h) fun v s1 h1=>thn h1 fun itv s2 h2=>?_) hs
 obtain⟨it,fp,tn,J,H2,e,I2,T,st2,f2,W,⟨m0,w0⟩,turn⟩:=h2
 subst e
 have stat:∀ {H':Hp},(∀ b∈fp,H' b=none)->∀ b∈fp,FpOk X pins H' b:=fun hn b hb=>⟨hn b hb,(f2 b hb).2⟩
 refine codeAny_forLoop_any (fun n s'=>∃ i σ' H',Inv X pins σ' H' s'/\tn i s'.heap/\(∀ b∈fp,H' b=none)/\W i n σ' H') ?_ m0 ⟨0,σ,H2,I2,st2,fun b hb=>(f2 b hb).1,w0⟩
 rintro n s3 ⟨i,σ3,H3,I3,st3,fr3,w3⟩
 rcases turn i n σ3 H3 w3 with ⟨stop,qn⟩ | ⟨go,N,hN,step⟩
 ·refine wpAny_passesOwn hp (thn (T.done X rfl rfl rfl hc i pins s3 σ3 H3 X.xe I3 (stat fr3) st3 stop) fun r s4 ⟨hr,I4⟩=>?_)
  subst hr
  exact wpAny_execs_nil ⟨σ3,H3,I4,qn⟩
 ·refine wpAny_passesOwn hp (thn (T.item X rfl rfl rfl hc i pins s3 σ3 H3 X.xe I3 (stat fr3) st3 go) fun r s4 ⟨u,hr,h4⟩=>?_)
  subst hr
  refine wpAny_passesOwn hp (thn h4 fun _ s5 ⟨x,H5,I5,r5,y5,st5,fr5⟩=>?_)
  have I5':=I5.pinned (stat fr5) (T.obj _ _ st5)
  refine wpAny_passesOwn hp (thn (hg _ s5 σ3 H5 x u _ I5' r5 (step x H5 y5)) fun _ s6 ⟨σ6,H6,I6,q6⟩=>?_)
  refine wpAny_passesOwn hp (thn (hb _ s6 σ6 H6 _ I6 q6) fun f s7 q7=>?_)
  have again:∀ {σ7:St} {H7:Hp},Inv X (pins++pinsAt fp s5.heap) σ7 H7 s7->N σ7 H7->∃ m,m < n/\∃ i σ' H',Inv X pins σ' H' s7/\tn i s7.heap/\(∀ b∈fp,H' b=none)/\W i m σ' H':=fun {σ7 H7} I7 n7=>by
   obtain⟨m',hm,w7⟩:=hN σ7 H7 n7
   refine⟨m',hm,i+1,σ7,H7,I7.unpinned,T.keep _ _ _ st5 fun b hb o e=>(I7.pin (b,o) (List.mem_append_right _ (List.mem_append_right _ (zAp hb e)))).1,fun b hb=>?_,w7⟩
   obtain⟨o,e,d⟩:=T.obj _ _ st5 b hb
   exact (I7.pin (b,o) (List.mem_append_right _ (List.mem_append_right _ (zAp hb e)))).2.1
  cases f with
  | next=>obtain⟨σ7,H7,I7,n7⟩:=q7; exact again I7 n7
  | cont=>obtain⟨σ7,H7,I7,n7⟩:=q7; exact again I7 n7
  | brk=>obtain⟨σ7,H7,I7,q7⟩:=q7; exact⟨σ7,H7,I7.unpinned,q7⟩
  | ret v=>obtain⟨x7,σ7,H7,I7,r7,q7⟩:=q7; exact⟨x7,σ7,H7,I7.unpinned,r7,q7⟩
end
abbrev R2:=V->V->Hp->VK->Prop
def OpR(X:Cx)(f:Value->Value->Sem Value)(r:R2):Prop :=
 ∀ (pins:List (Addr×Obj)) (s:Shared) (σ:St) (H:Hp) (x y:V) (v u:Value) (Q:VK),Inv X pins σ H s->RelV x v->RelV y u->r x y H Q ->
  wpAny (model X.prog X.w) X.A (f v u) (EP X pins σ Q) X.xe s
def UnR(X:Cx)(f:Value->Sem Value)(r:V->Hp->VK->Prop):Prop :=
 ∀ (pins:List (Addr×Obj)) (s:Shared) (σ:St) (H:Hp) (x:V) (v:Value) (Q:VK),Inv X pins σ H s->RelV x v->r x H Q ->
  wpAny (model X.prog X.w) X.A (f v) (EP X pins σ Q) X.xe s
def CallR(X:Cx)(f:Value)(r:List V->Hp->VK->Prop):Prop :=
 ∀ (pins:List (Addr×Obj)) (s:Shared) (σ:St) (H:Hp) (xs:List V) (us:List Value) (Q:VK),Inv X pins σ H s->Vals xs us->r xs H Q ->
  wpAny (model X.prog X.w) X.A (call f us) (EP X pins σ Q) X.xe s
def TruR(X:Cx)(r:V->Hp->(Bool->Hp->Prop)->Prop):Prop :=
 ∀ (pins:List (Addr×Obj)) (s:Shared) (σ:St) (H:Hp) (x:V) (v:Value) (Q:Bool->Hp->Prop),Inv X pins σ H s->RelV x v->r x H Q ->
  wpAny (model X.prog X.w) X.A (truthy v) (TP X pins σ Q) X.xe s
def tOp(r:R2)(ta tb:TE):TE:=fun σ H Q=>ta σ H fun x H1=>tb σ H1 fun y H2=>r x y H2 Q
def tUn(r:V->Hp->VK->Prop)(ta:TE):TE:=fun σ H Q=>ta σ H fun x H1=>r x H1 Q
def rI(C:Int->Int->Prop)(g:Int->Int->V):R2:=fun x y H Q=>∃ i j,x=.int i/\y=.int j/\C i j/\Q (g i j) H
def rI0(g:Int->Int->V):R2:=fun x y H Q=>∃ i j,x=.int i/\y=.int j/\Q (g i j) H
def rU(g:Int->V):V->Hp->VK->Prop:=fun x H Q=>∃ i,x=.int i/\Q (g i) H
section
variable {X:Cx}{a b c:Expr}{ta tb tc:TE}{pos:Pos}
theorem binT(ha:PE X a ta)(hb:PE X b tb){pins:List (Addr×Obj)}{s:Shared}{σ:St}{H:Hp}{R:V->V->Hp->Prop}(I:Inv X pins σ H s)
  (h:ta σ H fun x H1=>tb σ H1 fun y H2=>R x y H2) {Q:Value->Shared->Prop} {f:Value->Value->Sem Value}
  (hf:∀ v u s2 x y H2,Inv X pins σ H2 s2->RelV x v->RelV y u->R x y H2->wpAny (model X.prog X.w) X.A (f v u) Q X.xe s2) :
  wpAny (model X.prog X.w) X.A (eval a X.env) (fun v s₁=>wpAny (model X.prog X.w) X.A (eval b X.env) (fun u s₂=>wpAny (model X.prog X.w) X.A (f v u) Q X.xe s₂) X.xe s₁) X.xe s:=by
 refine thn (ha pins s σ H _ I h) fun v s1 ⟨x,H1,I1,r1,q1⟩=>?_
 refine thn (hb pins s1 σ H1 _ I1 q1) fun u s2 ⟨y,H2,I2,r2,q2⟩=>?_
 exact hf v u s2 x y H2 I2 r1 r2 q2
theorem zJ6{op:Operator}{r:R2}(ho:OpR X (binaryOp op) r)(ha:PE X a ta)(hb:PE X b tb):PE X (.BinOp a op b pos) (tOp r ta tb):=by
 intro pins s σ H Q I h
 exact wpAny_BinOp (binT ha hb I h fun v u s2 x y H2 I2 rx ry q=>ho pins s2 σ H2 x y v u Q I2 rx ry q)
theorem zKB{op:UnaryOp}{r:V->Hp->VK->Prop}(ho:UnR X (unaryOp op) r)(ha:PE X a ta):PE X (.UnaryOp op a pos) (tUn r ta):=by
 intro pins s σ H Q I h
 exact UnaryOp_ (thn (ha pins s σ H _ I h) fun v s1 ⟨x,H1,I1,r1,q1⟩=>ho pins s1 σ H1 x v Q I1 r1 q1)
theorem opI{f:Value->Value->Sem Value}{C:Int->Int->Prop}{g:Int->Int->Int}
  (rule:∀ (i j:Int) (t u:Tok) (s:Shared) (Q:Value->Shared->Prop) (E:Value->Shared->Prop),C i j->Q (.int (g i j) s.toks) { s with toks:=s.toks+1 }->wpAny (model X.prog X.w) X.A (f (.int i t) (.int j u)) Q E s) :
  OpR X f (rI C fun i j=>.int (g i j)):=by
 intro pins s σ H x y v u Q I rx ry h
 obtain⟨i,j,rfl,rfl,hc,q⟩:=h
 obtain⟨t,rfl⟩:=rx
 obtain⟨t',rfl⟩:=ry
 exact rule i j t t' s _ _ hc ⟨.int (g i j),H,I.tok _,⟨_,rfl⟩,q⟩
theorem opI0{f:Value->Value->Sem Value}{g:Int->Int->Int}
  (rule:∀ (i j:Int) (t u:Tok) (s:Shared) (Q:Value->Shared->Prop) (E:Value->Shared->Prop),Q (.int (g i j) s.toks) { s with toks:=s.toks+1 }->wpAny (model X.prog X.w) X.A (f (.int i t) (.int j u)) Q E s) :
  OpR X f (rI0 fun i j=>.int (g i j)):=by
 intro pins s σ H x y v u Q I rx ry h
 obtain⟨i,j,rfl,rfl,q⟩:=h
 obtain⟨t,rfl⟩:=rx
 obtain⟨t',rfl⟩:=ry
 exact rule i j t t' s _ _ ⟨.int (g i j),H,I.tok _,⟨_,rfl⟩,q⟩
theorem opB0{f:Value->Value->Sem Value}{g:Int->Int->Bool}
  (rule:∀ (i j:Int) (t u:Tok) (s:Shared) (Q:Value->Shared->Prop) (E:Value->Shared->Prop),Q (.bool (g i j)) s->wpAny (model X.prog X.w) X.A (f (.int i t) (.int j u)) Q E s) :
  OpR X f (rI0 fun i j=>.bl (g i j)):=by
 intro pins s σ H x y v u Q I rx ry h
 obtain⟨i,j,rfl,rfl,q⟩:=h
 obtain⟨t,rfl⟩:=rx
 obtain⟨t',rfl⟩:=ry
 exact rule i j t t' s _ _ ⟨.bl (g i j),H,I,rfl,q⟩
def CDiv(i j:Int):Prop:=0 < j/\j < 1073741824
def CPow(i j:Int):Prop:=0<=j/\j<=1000000/\i.natAbs < 2 ^ 64
def CMul(i j:Int):Prop:=(-(2 ^ 64) < i/\i < 2 ^ 64)\/(-(2 ^ 64) < j/\j < 2 ^ 64)
theorem CMul.ok{i j:Int}(h:CMul i j):IntMulOk i j:=by
 rcases h with ⟨h1,h2⟩ | ⟨h1,h2⟩
 ·exact .of_left (intBits_le_64 h1 h2)
 ·exact .of_right (intBits_le_64 h1 h2)
theorem zJs:OpR X (binaryOp .Add) (rI0 fun i j=>.int (i+j)):=opI0 fun _ _ _ _ _ _ _ q=>add_int q
theorem zJe:OpR X (binaryOp .Sub) (rI0 fun i j=>.int (i - j)):=opI0 fun _ _ _ _ _ _ _ q=>sub_int q
theorem zJG:OpR X (binaryOp .Mult) (rI CMul fun i j=>.int (i * j)):=opI fun _ _ _ _ _ _ _ hc q=>mul_int q hc.ok
theorem zIH:OpR X (binaryOp .FloorDiv) (rI CDiv fun i j=>.int (i / j)):=opI fun i j _ _ _ _ _ hc q=>by
 have h1:(0:Int) < j:=hc.1
 have h2:j < 1073741824:=hc.2
 exact floordiv_int (by omega) (by rw[Int.fdiv_eq_ediv_of_nonneg i (by omega)]; exact q) (.inl (PyProof.noPylong_small (by omega)))
theorem zJf:OpR X (binaryOp .Mod) (rI (fun _ j=>0 < j) fun i j=>.int (i % j)):=opI fun i j _ _ _ _ _ hc q=>by
 have h1:(0:Int) < j:=hc
 exact mod_int' (by omega) (by rw[Int.fmod_eq_emod_of_nonneg i (by omega)]; exact q)
theorem zJN:OpR X (binaryOp .Pow) (rI CPow fun i j=>.int (i ^ j.toNat)):=opI fun _ _ _ _ _ _ _ hc q=>pow_int_small hc.1 hc.2.1 hc.2.2 q
theorem unI{f:Value->Sem Value}{g:Int->Int}
  (rule:∀ (i:Int) (t:Tok) (s:Shared) (Q:Value->Shared->Prop) (E:Value->Shared->Prop),Q (.int (g i) s.toks) { s with toks:=s.toks+1 }->wpAny (model X.prog X.w) X.A (f (.int i t)) Q E s) :
  UnR X f (rU fun i=>.int (g i)):=by
 intro pins s σ H x v Q I rx h
 obtain⟨i,rfl,q⟩:=h
 obtain⟨t,rfl⟩:=rx
 exact rule i t s _ _ ⟨.int (g i),H,I.tok _,⟨_,rfl⟩,q⟩
theorem zI9:UnR X (unaryOp .USub) (rU fun i=>.int (-i)):=unI fun _ _ _ _ _ q=>neg_int q
end
def scal:V->V->Bool
 | .non,.non=>true | .non,.int _=>true | .int _,.non=>true | .non,.bl _=>true | .bl _,.non=>true | .non,.str _=>true | .str _,.non=>true
 | .int _,.int _=>true | .bl _,.bl _=>true | .str _,.str _=>true | .byt _,.byt _=>true
 | .int _,.str _=>true | .str _,.int _=>true | .bl _,.str _=>true | .str _,.bl _=>true
 | _,_=>false
def rEq:R2:=fun x y H Q=>scal x y=true/\Q (.bl (decide (x=y))) H
def rNe:R2:=fun x y H Q=>scal x y=true/\Q (.bl (!decide (x=y))) H
theorem zEx{i j:Int}:decide (V.int i=V.int j)=(i == j):=by
 rw[Bool.eq_iff_iff]
 simp
theorem zFs{i j:Bool}:decide (V.bl i=V.bl j)=(i == j):=by
 rw[Bool.eq_iff_iff]
 simp
theorem zE1{i j:Str}:decide (V.str i=V.str j)=(i == j):=by
 rw[Bool.eq_iff_iff]
 simp
theorem zE3{i j:Array UInt8}:decide (V.byt i=V.byt j)=(i.toList == j.toList):=by
 rw[Bool.eq_iff_iff]
 cases i
 cases j
 simp
section
variable {X:Cx}{a b c:Expr}{ta tb tc:TE}{pos:Pos}
theorem zAD{pins:List (Addr×Obj)}{σ:St}{H:Hp}{s:Shared}{Q:VK}{k k':Bool}(I:Inv X pins σ H s)(q:Q (.bl k) H)(e:k=k'):EP X pins σ Q (.bool k') s:=by
 subst e
 exact⟨.bl k,H,I,rfl,q⟩
theorem zKD:OpR X (compareOp .Eq) rEq:=by
 intro pins s σ H x y v u Q I rx ry h
 obtain⟨hs,q⟩:=h
 cases x with
 | non =>
  cases rx
  cases y with
  | non=>cases ry; exact PySem.EqNone.eq_none_none (zAD I q (by simp))
  | bl j=>cases ry; exact PySem.EqNone.eq_none_bool (zAD I q (by simp))
  | int j=>obtain⟨t',rfl⟩:=ry; exact PySem.EqNone.eq_none_int (zAD I q (by simp))
  | str j=>obtain⟨t',rfl⟩:=ry; exact PySem.EqNone.eq_none_str (zAD I q (by simp))
  | _=>exact absurd (show false=true from hs) Bool.false_ne_true
 | bl i =>
  cases rx
  cases y with
  | non=>cases ry; exact PySem.EqNone.eq_bool_none (zAD I q (by simp))
  | bl j=>cases ry; exact eq_bool (zAD I q zFs)
  | str j=>obtain⟨t',rfl⟩:=ry; exact PySem.EqMixed.eq_bool_str (zAD I q (by simp))
  | _=>exact absurd (show false=true from hs) Bool.false_ne_true
 | int i =>
  obtain⟨t,rfl⟩:=rx
  cases y with
  | non=>cases ry; exact PySem.EqNone.eq_int_none (zAD I q (by simp))
  | int j=>obtain⟨t',rfl⟩:=ry; exact eq_int (zAD I q zEx)
  | str j=>obtain⟨t',rfl⟩:=ry; exact PySem.EqMixed.eq_int_str (zAD I q (by simp))
  | _=>exact absurd (show false=true from hs) Bool.false_ne_true
 | str i =>
  obtain⟨t,rfl⟩:=rx
  cases y with
  | non=>cases ry; exact PySem.EqNone.eq_str_none (zAD I q (by simp))
  | bl j=>cases ry; exact PySem.EqMixed.eq_str_bool (zAD I q (by simp))
  | int j=>obtain⟨t',rfl⟩:=ry; exact PySem.EqMixed.eq_str_int (zAD I q (by simp))
  | str j=>obtain⟨t',rfl⟩:=ry; exact eq_str (zAD I q zE1)
  | _=>exact absurd (show false=true from hs) Bool.false_ne_true
 | byt i =>
  obtain⟨t,rfl⟩:=rx
  cases y with
  | byt j=>obtain⟨t',rfl⟩:=ry; exact PySem.W.eq_bytes (zAD I q zE3)
  | _=>exact absurd (show false=true from hs) Bool.false_ne_true
 | _=>cases y <;> exact absurd (show false=true from hs) Bool.false_ne_true
theorem zKM:OpR X (compareOp .NotEq) rNe:=by
 intro pins s σ H x y v u Q I rx ry h
 obtain⟨hs,q⟩:=h
 cases x with
 | non =>
  cases rx
  cases y with
  | non=>cases ry; exact PySem.EqNone.ne_none_none (zAD I q (by simp))
  | bl j=>cases ry; exact PySem.EqNone.ne_none_bool (zAD I q (by simp))
  | int j=>obtain⟨t',rfl⟩:=ry; exact PySem.EqNone.ne_none_int (zAD I q (by simp))
  | str j=>obtain⟨t',rfl⟩:=ry; exact PySem.EqNone.ne_none_str (zAD I q (by simp))
  | _=>exact absurd (show false=true from hs) Bool.false_ne_true
 | bl i =>
  cases rx
  cases y with
  | non=>cases ry; exact PySem.EqNone.ne_bool_none (zAD I q (by simp))
  | bl j=>cases ry; exact ne_bool (zAD I q (congrArg not zFs))
  | str j=>obtain⟨t',rfl⟩:=ry; exact PySem.EqMixed.ne_bool_str (zAD I q (by simp))
  | _=>exact absurd (show false=true from hs) Bool.false_ne_true
 | int i =>
  obtain⟨t,rfl⟩:=rx
  cases y with
  | non=>cases ry; exact PySem.EqNone.ne_int_none (zAD I q (by simp))
  | int j=>obtain⟨t',rfl⟩:=ry; exact ne_int (zAD I q (congrArg not zEx))
  | str j=>obtain⟨t',rfl⟩:=ry; exact PySem.EqMixed.ne_int_str (zAD I q (by simp))
  | _=>exact absurd (show false=true from hs) Bool.false_ne_true
 | str i =>
  obtain⟨t,rfl⟩:=rx
  cases y with
  | non=>cases ry; exact PySem.EqNone.ne_str_none (zAD I q (by simp))
  | bl j=>cases ry; exact PySem.EqMixed.ne_str_bool (zAD I q (by simp))
  | int j=>obtain⟨t',rfl⟩:=ry; exact PySem.EqMixed.ne_str_int (zAD I q (by simp))
  | str j=>obtain⟨t',rfl⟩:=ry; exact ne_str (zAD I q (congrArg not zE1))
  | _=>exact absurd (show false=true from hs) Bool.false_ne_true
 | byt i =>
  obtain⟨t,rfl⟩:=rx
  cases y with
  | byt j=>obtain⟨t',rfl⟩:=ry; exact PySem.W.ne_bytes (zAD I q (congrArg not zE3))
  | _=>exact absurd (show false=true from hs) Bool.false_ne_true
 | _=>cases y <;> exact absurd (show false=true from hs) Bool.false_ne_true
theorem zJ7:OpR X (compareOp .Lt) (rI0 fun i j=>.bl (decide (i < j))):=opB0 fun _ _ _ _ _ _ _ q=>lt_int q
theorem zKI:OpR X (compareOp .Gt) (rI0 fun i j=>.bl (decide (j < i))):=opB0 fun _ _ _ _ _ _ _ q=>gt_int q
theorem zKE:OpR X (compareOp .GtE) (rI0 fun i j=>.bl (decide (j<=i))):=opB0 fun _ _ _ _ _ _ _ q=>ge_int q
theorem OpR.or{f:Value->Value->Sem Value}{r r':R2}(h:OpR X f r)(h':OpR X f r'):OpR X f (fun x y H Q=>r x y H Q\/r' x y H Q):=by
 intro pins s σ H x y v u Q I rx ry q
 rcases q with q | q
 ·exact h pins s σ H x y v u Q I rx ry q
 ·exact h' pins s σ H x y v u Q I rx ry q
theorem nomark(b:Expr){op:CmpOp}(h:op≠.In:=by decide)(h2:op≠.NotIn:=by decide):behindInMarks op b=false:=by
 have e1:(op == CmpOp.In)=false:=by cases op <;> first | rfl | exact absurd rfl h
 have e2:(op == CmpOp.NotIn)=false:=by cases op <;> first | rfl | exact absurd rfl h2
 cases b <;> simp[behindInMarks,e1,e2]
theorem zID{op:CmpOp}{r:R2}(ho:OpR X (compareOp op) r)(ha:PE X a ta)(hb:PE X b tb)(hm:behindInMarks op b=false):PE X (.Compare a [op] [b] pos) (tOp r ta tb):=by
 intro pins s σ H Q I h
 exact wpAny_Compare1 (binT ha hb I h fun v u s2 x y H2 I2 rx ry q=>ho pins s2 σ H2 x y v u Q I2 rx ry q) hm
def tTest(t:TE):TT:=fun σ H Q=>t σ H fun x H'=>∃ k,x=.bl k/\Q k H'
theorem zIB{op:CmpOp}{r:R2}(ho:OpR X (compareOp op) r)(ha:PE X a ta)(hb:PE X b tb)(hm:behindInMarks op b=false):PT X (.Compare a [op] [b] pos) (tTest (tOp r ta tb)):=by
 intro pins s σ H Q I h
 refine wpAny_isTrue_Compare1 (thn (ha pins s σ H _ I h) fun v s1 ⟨x,H1,I1,r1,q1⟩=>thn (hb pins s1 σ H1 _ I1 q1) fun u s2 ⟨y,H2,I2,r2,q2⟩ =>
  thn (ho pins s2 σ H2 x y v u _ I2 r1 r2 q2) fun c s3 ⟨z,H3,I3,r3,k,e,q3⟩=>?_) hm
 subst e
 cases r3
 exact wpAny_truthy_bool ⟨H3,I3,q3⟩
def TruV(K:PySem.W.Frag)(x:V)(H:Hp)(k:Bool):Prop :=
 match x with
 | .non=>k=false
 | .bl b=>k=b
 | .int i=>k=(i != 0)
 | .str y=>y.length<=sizeLine/\k=((y.length:Int) != 0)
 | .byt y=>y.size<=sizeLine/\k=((y.size:Int) != 0)
 | .ref p=>(∃ xs,SqL K H p xs/\k=!xs.isEmpty)\/(∃ xs,SqT K H p xs/\k=!xs.isEmpty)\/∃ kvs,H p=some (.dK kvs)/\k=!kvs.isEmpty
 | _=>False
theorem zFO{κ:Type}{kvs:List (κ×V)}{vs:List (κ×Value)}(r:KV kvs vs):(!vs.isEmpty)=!kvs.isEmpty:=by
 cases r <;> rfl
theorem zCO{xs:List V}{its:List Value}(r:Vals xs its):(!its.toArray.isEmpty)=!xs.isEmpty:=by
 cases r <;> simp
theorem line63:(sizeLine:Nat) < 2 ^ 63:=by rw[sizeLine_eq]; decide
theorem zJm:TruR X (fun x H Q=>∃ k,TruV X.K x H k/\Q k H):=by
 intro pins s σ H x v Q I rx h
 obtain⟨k,e,q⟩:=h
 have hl:=line63
 have hs:sizeLine=16777216:=sizeLine_eq
 cases x with
 | non =>
  cases rx
  have e':k=false:=e
  subst e'
  exact truthy_none ⟨H,I,q⟩
 | bl b =>
  cases rx
  have e':k=b:=e
  subst e'
  exact wpAny_truthy_bool ⟨H,I,q⟩
 | int i =>
  obtain⟨t,rfl⟩:=rx
  have e':k=(i != 0):=e
  subst e'
  exact PySem.P.truthy_int ⟨H,I,q⟩
 | str y =>
  obtain⟨t,rfl⟩:=rx
  obtain⟨hy,e'⟩:y.length<=sizeLine/\k=((y.length:Int) != 0):=e
  subst e'
  exact PySem.P.truthy_str (by omega) ⟨H,I.tok _,q⟩
 | byt y =>
  obtain⟨t,rfl⟩:=rx
  obtain⟨hy,e'⟩:y.size<=sizeLine/\k=((y.size:Int) != 0):=e
  subst e'
  exact PySem.W.truthy_bytes (by omega) ⟨H,I.tok _,q⟩
 | ref p =>
  cases rx
  have e':(∃ xs,SqL X.K H p xs/\k=!xs.isEmpty)\/(∃ xs,SqT X.K H p xs/\k=!xs.isEmpty)\/∃ kvs,H p=some (.dK kvs)/\k=!kvs.isEmpty:=e
  rcases e' with ⟨xs,hx,e'⟩ | ⟨xs,hx,e'⟩ | ⟨kvs,hx,e'⟩
  ·subst e'
   obtain⟨its,r,pl,hz⟩:=I.list hx
   have hlen:=r.length
   exact wpAny_truthy_list pl.isList (by simp only[List.size_toArray]; omega) ⟨H,I.tok _,by rw[zCO r]; exact q⟩
  ·subst e'
   obtain⟨its,r,pl,hz⟩:=I.tuple hx
   have hlen:=r.length
   exact truthy_tuple pl (by simp only[List.size_toArray]; omega) ⟨H,I.tok _,by rw[zCO r]; exact q⟩
  ·subst e'
   obtain⟨hz,hS,vs,r,m⟩:kvs.length<=sizeLine/\(p == sysModules)=false/\∃ vs,KV kvs vs/\s.heap.DictOf (mixKind X.prog X.w) p vs:=I.hok p _ hx
   have hlen:kvs.length=vs.length:=Paired.length r
   exact wpAny_truthy_dict hS m (by omega) ⟨H,I.tok _,by rw[zFO r]; exact q⟩
 | _=>exact (show False from e).elim
theorem zDq(ha:PE X a ta)(he:∀ whole,isTrue a X.env whole=(do let v ← whole; standAt a.pos; holding [v] (truthy v))) :
  PT X a (fun σ H Q=>ta σ H fun x H'=>∃ k,TruV X.K x H' k/\Q k H'):=by
 intro pins s σ H Q I h
 exact isTrue_plain (thn (ha pins s σ H _ I h) fun v s1 ⟨x,H1,I1,r1,q1⟩=>zJm pins s1 σ H1 x v Q I1 r1 q1) (he _)
theorem zFe:OpR X (binaryOp .Add) (fun x y H Q=>∃ i j,x=.str i/\y=.str j/\i.length+j.length<=sizeLine/\Q (.str (i++j)) H):=by
 intro pins s σ H x y v u Q I rx ry h
 obtain⟨i,j,rfl,rfl,hz,q⟩:=h
 obtain⟨t,rfl⟩:=rx
 obtain⟨t',rfl⟩:=ry
 exact add_str (fun t' tk=>⟨.str (i++j),H,I.tok _,⟨_,rfl⟩,q⟩) hz
theorem vals1{x:V}{us:List Value}(r:Vals [x] us):∃ u,us=[u]/\RelV x u:=by
 cases r with
 | cons r1 r2=>cases r2; exact⟨_,rfl,r1⟩
theorem vals2{x y:V}{us:List Value}(r:Vals [x,y] us):∃ u w',us=[u,w']/\RelV x u/\RelV y w':=by
 cases r with
 | cons r1 r2 =>
  cases r2 with
  | cons r3 r4=>cases r4; exact⟨_,_,rfl,r1,r3⟩
theorem zFp:CallR X (.type "int") (fun xs H Q=>(∃ i,xs=[.int i]/\Q (.int i) H)\/∃ k,xs=[.bl k]/\Q (.int (if k then 1 else 0)) H):=by
 intro pins s σ H xs us Q I r h
 rcases h with ⟨i,rfl,q⟩ | ⟨k,rfl,q⟩
 ·obtain⟨u,rfl,t,rfl⟩:=vals1 r
  exact call_int_int ⟨.int i,H,I,⟨_,rfl⟩,q⟩
 ·obtain⟨u,rfl,r1⟩:=vals1 r
  cases r1
  exact call_int_bool ⟨.int (if k then 1 else 0),H,I.tok _,⟨_,rfl⟩,q⟩
end
section
variable {X:Cx}{pins:List (Addr×Obj)}{σ:St}{H:Hp}{s:Shared}{a C dx:Addr}{fs:List (Str×V)}{f:Str}{v:V}{A:Around}{E:Value->Shared->Prop}
theorem zIg{prog:Program}{w:World}{env:Env}{e:Expr}{f:Str}{pos:Pos}{s:Shared}{Q:Value->Shared->Prop}(hb:attributeBase e f env (eval e env)=eval e env)
  (h:wpAny (model prog w) A (eval e env) (fun o s₁=>wpAny (model prog w) A (getAttr o f true) Q E s₁) E s):wpAny (model prog w) A (eval (.Attribute e f pos) env) Q E s :=
 Attribute_any_ h (by rw[arm_eval_Attribute,hb])
end
structure Room(k:Nat)(A:Around):Prop where
 hd:A.handled=none
 dp:A.depth+3 * k+5 < recursionLimit
 un:A.units+16 * k+200 < cLine
 gd:A.guards=some []
theorem Room.mono{j k:Nat}{A:Around}(r:Room k A)(h:j<=k):Room j A:=⟨r.hd,by have:=r.dp; omega,by have:=r.un; omega,r.gd⟩
theorem Room.deeper{k:Nat}{A:Around}(r:Room (k+1) A)(env:Env):Room k (A.deeper env) :=
 ⟨r.hd,by have:=r.dp; show A.depth+1+3 * k+5 < _; omega,by have:=r.un; show A.units+3+16 * k+200 < _; omega,r.gd⟩
theorem zFL{A:Around}{C:Addr}{us:List Value}{kw:List (Str×Value)}:(A.under (.builtin "type.__call__" ⟨.ref C::us,kw⟩)).depth=A.depth+1:=by
 first | rfl | simp[Around.under,Code.weight,Code.isCreation,Code.isGuard,Code.isCaller,Code.frames,Code.isFrame,guardIds]
theorem zE8{A:Around}{C:Addr}{us:List Value}{kw:List (Str×Value)}:(A.under (.builtin "type.__call__" ⟨.ref C::us,kw⟩)).units=A.units+1:=by
 first | rfl | simp[Around.under,Code.cUnits,Code.frames,Code.isFrame]
theorem Room.depth{k:Nat}{A:Around}(r:Room k A):A.depth < recursionLimit:=by have:=r.dp; omega
def tNil:TA:=fun _ H Q=>Q [] H
def tCons(ta:TE)(tr:TA):TA:=fun σ H Q=>ta σ H fun x H1=>tr σ H1 fun xs H2=>Q (x::xs) H2
section
variable {X:Cx}{e:Expr}{es:List Expr}{te:TE}{t:TA}{pos:Pos}
theorem zBL:PA X [] tNil:=fun _ _ _ _ H Q I h=>Calls.spliced_nil ⟨[],H,I,.nil,h⟩
theorem zBc(ha:PE X e te)(hr:PA X es t)(hs:starEach (e::es) X.env=(false,eval e X.env)::starEach es X.env:=by rfl):PA X (e::es) (tCons te t):=by
 intro pos pins s σ H Q I h
 rw[hs]
 show wpAny _ _ (spliced ((false,eval e X.env)::backTo pos (starEach es X.env))) _ _ s
 refine Calls.spliced_cons (thn (ha pins s σ H _ I h) fun u s1 ⟨x,H1,I1,r1,q1⟩=>?_)
 exact thn (hr pos pins s1 σ H1 _ I1 q1) fun us s2 ⟨xs,H2,I2,r2,q2⟩=>⟨x::xs,H2,I2,.cons r1 r2,q2⟩
def tTup(t:TA):TE:=fun σ H Q=>t σ H fun xs H1=>xs.length<=sizeLine/\∀ p,H1 p=none->Q (.ref p) (upd H1 p (.tup xs))
def tLst(t:TA):TE:=fun σ H Q=>t σ H fun xs H1=>xs.length<=sizeLine/\∀ p,H1 p=none->Q (.ref p) (upd H1 p (.lst xs))
theorem zFx{x1}(h:PA X es t):PE X (.Tuple es x1 pos) (tTup t):=by
 intro pins s σ H Q I hq
 refine wpAny_Tuple_spliced (thn (h pos pins s σ H _ I hq) fun us s1 ⟨xs,H1,I1,r,z,q⟩=>⟨by rw[← r.length]; exact z,?_⟩)
 have hf:H1 s1.heap.objs.size=none:=I1.hok.fresh (Nat.le_refl _)
 refine⟨.ref s1.heap.objs.size,upd H1 s1.heap.objs.size (.tup xs),I1.laid (t':=s1.toks) (fun b u e=>Heap.get?_push_of_some _ e) (Nat.le_refl _) ?_,rfl,q _ hf⟩
 exact⟨z,us,r,⟨_,Heap.get?_push_size _ rfl,rfl,⟨_,rfl⟩,rfl⟩⟩
theorem zJZ(h:PA X es t):PE X (.List es pos) (tLst t):=by
 intro pins s σ H Q I hq
 refine wpAny_List_spliced (thn (h pos pins s σ H _ I hq) fun us s1 ⟨xs,H1,I1,r,z,q⟩=>⟨by rw[← r.length]; exact z,?_⟩)
 have hf:H1 s1.heap.objs.size=none:=I1.hok.fresh (Nat.le_refl _)
 refine⟨.ref s1.heap.objs.size,upd H1 s1.heap.objs.size (.lst xs),I1.laid (t':=s1.toks) (fun b u e=>Heap.get?_push_of_some _ e) (Nat.le_refl _) ?_,rfl,q _ hf⟩
 exact⟨z,us,0,r,Heap.get?_push_size _ rfl⟩
end
abbrev Sp:=List V->Hp->VK->XK->Prop
abbrev CXT:=List Env->Hp->Shared->XK->Value->Shared->Prop
structure Env0(P:Program)(w:World)(K:PySem.W.Frag)(mg:Str->Option Value)(base:Heap)(A:Around)(outer:List Env)(s:Shared)(H:Hp):Prop where
 frames:A.frames=some outer
 mod:Mod K mg base
 bs:∀ b o,base.get? b=some o->s.heap.get? b=some o/\H b=none
 bsz:base.objs.size<=s.heap.objs.size
 funs:s.heap.FunFrames base outer
 frf:∀ b∈frs outer,H b=none
 hok:HOk P w H s.heap
 bare:AllBare s.gens
def CE(outer:List Env)(P:Program)(w:World)(H:Hp)(s:Shared)(Q:VK)(u:Value)(s':Shared):Prop :=
 ∃ v H',s'.os=s.os/\AllBare s'.gens/\Un (frs outer) [] H H' s.heap s'.heap/\HOk P w H' s'.heap/\RelV v u/\Q v H'
def CR(CX:CXT)(outer:List Env)(P:Program)(w:World)(H:Hp)(s:Shared)(Q:VK)(E:XK)(r:Result)(s':Shared):Prop :=
 match r with
 | .ok (.ret u)=>CE outer P w H s Q u s'
 | .ok _=>False
 | .error e=>CX outer H s E e s'
structure FnOk(P:Program)(w:World)(K:PySem.W.Frag)(mg:Str->Option Value)(base:Heap)(CX:CXT)(k:Nat)(f:Addr)(fd:FuncData)(ps:List Str)(sp:Sp):Prop where
 len:∀ vs H Q E,sp vs H Q E->vs.length=ps.length
 run:∀ (A:Around) (outer:List Env) (s:Shared) (H:Hp) (args:Args) (us:List Value) (vs:List V) (Q:VK) (E:XK),Room k A->Env0 P w K mg base A outer s H->BindsTo s fd args (ps.zip us)->Vals vs us->sp vs H Q E ->
  codeAny (model P w) A (.call (.ref f) args) (CR CX outer P w H s Q E) s
section
variable {X:Cx}{pins:List (Addr×Obj)}{σ:St}{H:Hp}{s s':Shared}
theorem Inv.env0(I:Inv X pins σ H s):Env0 X.prog X.w X.K X.mg X.base X.A X.stack s H :=
 ⟨I.ok.frames,I.ok.mod,I.bs,Nat.le_trans I.ok.bsz I.sz,I.stack,I.stkFree,I.hok,I.bare⟩
theorem Inv.after{Q:VK}{u:Value}(I:Inv X pins σ H s)(h:CE X.stack X.prog X.w H s Q u s'):EP X pins σ Q u s':=by
 obtain⟨v,H',os,bare,un,hok,r,q⟩:=h
 obtain⟨hh,g,d,t,os'⟩:=s'
 obtain rfl:os'=s.os:=os
 exact⟨v,H',I.call (h':=hh) (g':=g) (d':=d) (t':=t) (ch:=[]) un hok bare (fun b z=>absurd z (by simp)),r,q⟩
end
def tCall(sp:Sp)(dvs:List V)(E:XK)(t:TA):TE:=fun σ H Q=>t σ H fun vs H1=>sp (vs++dvs) H1 Q E
def Binds(K:PySem.W.Frag)(fd:FuncData)(ps:List Str)(ds:List Value):Prop :=
 ∀ (s:Shared) (us:List Value),K.In s.heap->(us++ds).length=ps.length->BindsTo s fd ⟨us,[]⟩ (ps.zip (us++ds))
theorem Binds.all{K:PySem.W.Frag}{fd:FuncData}{ps:List Str}(h:∀ us:List Value,us.length=ps.length->bindArgs fd ⟨us,[]⟩=pure (ps.zip us)):Binds K fd ps []:=fun s us _ hl=>by
 rw[List.append_nil]at hl ⊢
 exact .of_eq (h us hl)
def Passes(CX:CXT)(X:Cx)(E:XK):Prop:=∀ (pins:List (Addr×Obj)) (σ:St) (H:Hp) (s:Shared) (e:Value) (s':Shared),Inv X pins σ H s->CX X.stack H s E e s'->X.xe e s'
section
variable {X:Cx}{CX:CXT}{k:Nat}{f C:Addr}{fd:FuncData}{ps:List Str}{sp:Sp}{dvs:List V}{ds:List Value}{E:XK}{x m:Str}{p pos apos:Pos}{e o:Expr}{es:List Expr}{ta:TE}{t:TA}
theorem zGA{pins:List (Addr×Obj)}{σ:St}{H:Hp}{s:Shared}{Q:VK}{us:List Value}{vs:List V}(F:FnOk X.prog X.w X.K X.mg X.base CX k f fd ps sp)(hr:Room k X.A)(hb:Binds X.K fd ps ds)(hd:Vals dvs ds)(hx:Passes CX X E)
  (I:Inv X pins σ H s) (r:Vals vs us) (h:sp (vs++dvs) H Q E):wpAny (model X.prog X.w) X.A (call (.ref f) us) (EP X pins σ Q) X.xe s:=by
 have r2:Vals (vs++dvs) (us++ds):=r.append hd
 have hl:(us++ds).length=ps.length:=by rw[← r2.length]; exact F.len _ _ _ _ h
 refine wpAny_call (codeAny_mono (F.run X.A X.stack s H ⟨us,[]⟩ (us++ds) (vs++dvs) Q E hr I.env0 (hb s us I.kIn hl) r2 h) fun r s' hq=>?_)
 cases r with
 | error e=>exact hx pins σ H s e s' I hq
 | ok fl =>
  cases fl with
  | ret u=>exact I.after hq
  | next=>exact False.elim hq
  | brk=>exact False.elim hq
  | cont=>exact False.elim hq
theorem zH1(F:FnOk X.prog X.w X.K X.mg X.base CX k f fd ps sp)(hr:Room k X.A)(hg:Gl X x)(hm:X.mg x=some (.ref f))(hk:PySem.W.keepIn X.K (.ref f)=true)(hb:Binds X.K fd ps ds)(hd:Vals dvs ds)(hx:Passes CX X E)
  (ha:PA X (e::es) t) (hdb:(x == ("__debug__":Str))=false:=by decide) (he:starEach (e::es) X.env=(false,eval e X.env)::starEach es X.env:=by rfl) (hpl:(backTo pos (starEach es X.env)).any (·.1)=false:=by rfl) :
  PE X (.Call (.Name x p) (e::es) [] pos) (tCall sp dvs E t):=by
 intro pins s σ H Q I h
 refine wpAny_Call_Name_kw (zAh I hg hm ?_ hdb)
 refine PySem.W.callWith_K (h₀:=X.base) I.ok.mod.kin hk (thn (ha pos pins s σ H _ I h) fun us s1 ⟨vs,H1,I1,r,q⟩=>⟨I1.kIn,?_⟩) he hpl
 exact zGA F hr hb hd hx I1 r q
theorem zHf(F:FnOk X.prog X.w X.K X.mg X.base CX k f fd ps sp)(hr:Room k X.A)(hg:Gl X x)(hm:X.mg x=some (.ref f))(hk:PySem.W.keepIn X.K (.ref f)=true)(hb:Binds X.K fd ps ds)(hd:Vals dvs ds)(hx:Passes CX X E)
  (hdb:(x == ("__debug__":Str))=false:=by decide):PE X (.Call (.Name x p) [] [] pos) (tCall sp dvs E tNil):=by
 intro pins s σ H Q I h
 refine wpAny_Call_Name_kw (zAh I hg hm ?_ hdb)
 exact PySem.W.callWith_K0 I.kIn hk (zGA (us:=[]) F hr hb hd hx I .nil h)
end
structure FnScope(N P:List Str)(sc:Scope):Prop where
 kind:sc.kind=.function
 co:sc.isCoroutine=false
 gen:sc.isGenerator=false
 nd:N.Nodup
 pre:N.take P.length=P
 par:∀ x∈P,sc.names.lookup x=some .local\/sc.names.lookup x=some .cell
 nofree:∀ y∈sc.names,y.2≠.free
theorem zC4{kindOf:Str->Option NameKind}{x:Str}:∀ {binds:List (Str×Value)} {m:Str->Option Value},(∀ v,(x,v)∉binds)->bindL kindOf binds m x=m x
 | [],_,_=>rfl
 | (n,v)::r,m,h=>by
  unfold bindL
  rw[zC4 fun w hw=>h w (List.mem_cons_of_mem _ hw)]
  split
  ·have:x≠n:=by rintro rfl; exact h v List.mem_cons_self
   simp[this]
  ·rfl
theorem zDH{kindOf:Str->Option NameKind}{x:Str}:∀ {binds:List (Str×Value)} {m:Str->Option Value},(∀ v,(x,v)∉binds)->bindC kindOf binds m x=m x
 | [],_,_=>rfl
 | (n,v)::r,m,h=>by
  unfold bindC
  rw[zDH fun w hw=>h w (List.mem_cons_of_mem _ hw)]
  split
  ·rfl
  ·have:x≠n:=by rintro rfl; exact h v List.mem_cons_self
   simp[this]
theorem zBO{kindOf:Str->Option NameKind}{x:Str}{v:Value}:∀ {P:List Str} {vs:List Value} {i:Nat} {m:Str->Option Value},P.Nodup->P[i]?=some x->vs[i]?=some v->kindOf x=some .local ->
  bindL kindOf (P.zip vs) m x=some v
 | [],_,_,_,_,h,_,_=>by simp at h
 | _::_,[],_,_,_,_,h,_=>by simp at h
 | p::P,w::vs,0,m,nd,h1,h2,hk=>by
  simp at h1 h2; subst h1; subst h2
  show bindL kindOf ((p,w)::P.zip vs) m p=_
  unfold bindL
  rw[zC4 fun v hv=>(List.nodup_cons.mp nd).1 (List.of_mem_zip hv).1,if_pos hk]
  simp
 | p::P,w::vs,i+1,m,nd,h1,h2,hk=>by
  show bindL kindOf ((p,w)::P.zip vs) m x=_
  unfold bindL
  exact zBO (i:=i) (List.nodup_cons.mp nd).2 (by simpa using h1) (by simpa using h2) hk
theorem zBS{kindOf:Str->Option NameKind}{x:Str}{v:Value}:∀ {P:List Str} {vs:List Value} {i:Nat} {m:Str->Option Value},P.Nodup->P[i]?=some x->vs[i]?=some v->kindOf x≠some .local ->
  bindC kindOf (P.zip vs) m x=some v
 | [],_,_,_,_,h,_,_=>by simp at h
 | _::_,[],_,_,_,_,h,_=>by simp at h
 | p::P,w::vs,0,m,nd,h1,h2,hk=>by
  simp at h1 h2; subst h1; subst h2
  show bindC kindOf ((p,w)::P.zip vs) m p=_
  unfold bindC
  rw[zDH fun v hv=>(List.nodup_cons.mp nd).1 (List.of_mem_zip hv).1,if_neg hk]
  simp
 | p::P,w::vs,i+1,m,nd,h1,h2,hk=>by
  show bindC kindOf ((p,w)::P.zip vs) m x=_
  unfold bindC
  exact zBS (i:=i) (List.nodup_cons.mp nd).2 (by simpa using h1) (by simpa using h2) hk
def start(N:List Str)(vs:List V):St:=vs.map some++List.replicate (N.length - vs.length) none
def cxOf(CX:CXT)(P:Program)(w:World)(K:PySem.W.Frag)(mg:Str->Option Value)(base:Heap)(N:List Str)(qual:Str)(scope:Scope)(f:Addr)(cd:Value)(A:Around)(outer:List Env)(s:Shared)(H:Hp)(E:XK):Cx where
 prog:=P
 w:=w
 K:=K
 mg:=mg
 base:=base
 A:=A.deeper (envOfC qual scope s.heap.objs.size f cd)
 N:=N
 s₀:=s
 H₀:=H
 env:=envOfC qual scope s.heap.objs.size f cd
 outer:=outer
 stack:=envOfC qual scope s.heap.objs.size f cd::outer
 ex:=[]
 calm:=true
 fn:=fun _=>true
 pn:=[]
 xe:=fun e s'=>wpAny (model P w) (A.deeper (envOfC qual scope s.heap.objs.size f cd)) (leaving (envOfC qual scope s.heap.objs.size f cd) e) (fun _ s''=>CX outer H s E e s'') (fun e' s''=>CX outer H s E e' s'') s'
theorem zA9{sc:Scope}{n:Nat}{x:Str}(h:sc.names.lookup x=some .cell):∃ c,(cellsFrom n sc.names []).lookup x=some c:=by
 have q:=PySem.W.cellsFrom_some sc.names n [] (.inl h)
 exact Option.isSome_iff_exists.mp q
theorem zGc{CX:CXT}{P:Program}{w:World}{K:PySem.W.Frag}{mg:Str->Option Value}{base:Heap}{N ps:List Str}{qual:Str}{scope:Scope}{f:Addr}{cd:Value}{A:Around}{outer:List Env}{s s1:Shared}{H:Hp}{E:XK}{us:List Value}{vs:List V}
  (S:FnScope N ps scope) (hd:A.handled=none) (e0:Env0 P w K mg base A outer s H) (hl:vs.length=ps.length) (r:Vals vs us)
  (x:InCallC s s.heap.objs.size (bindL (envOfC qual scope s.heap.objs.size f cd).kindOf (ps.zip us) fun _=>none) (cellsFrom (s.heap.objs.size+1) scope.names []) (bindC (envOfC qual scope s.heap.objs.size f cd).kindOf (ps.zip us) fun _=>none) s1) :
  Inv (cxOf CX P w K mg base N qual scope f cd A outer s H E) [] (start N vs) H s1:=by
 have hpl:ps.length<=N.length:=by have:=congrArg List.length S.pre; rw[List.length_take]at this; omega
 obtain⟨h1,tk,rfl,hk⟩:=x.done
 have noA:∀ b:Addr,b∉(cxOf CX P w K mg base N qual scope f cd A outer s H E).ex:=fun b z=>absurd (show b∈([]:List Addr) from z) (by simp)
 refine⟨⟨e0.mod,S.kind,rfl,rfl,Nat.le_refl _,fun y z c h1 h2=>?_,fun y hy=>?_,fun y c _ h=>?_,fun _=>hd,Around.frames_deeper e0.frames,.inr ⟨rfl,rfl⟩,fun b z=>absurd z (noA b),e0.bs,e0.bsz,fun b _ _=>noA b,fun b z=>absurd z (noA b),e0.funs,e0.frf⟩,
  rfl,e0.bare,Un.kept hk,⟨_,x.toInCall.ns,fun i y v h1 h2 h3=>?_⟩,fun y c h=>⟨_,x.cell y c h⟩,e0.hok.fresh (Nat.le_refl _),fun y c h=>?_,fun p hp=>absurd (show p∈([]:List (Addr×Obj)) from hp) (by simp),e0.hok.kept hk,?_⟩
 ·exact name_of_addr x.apart (PySem.mem_of_lookup h1) (PySem.mem_of_lookup h2)
 ·have hy:scope.names.lookup y=some .cell\/scope.names.lookup y=some .free:=hy
  rcases hy with hy | hy
  ·exact zA9 hy
  ·exact absurd rfl (S.nofree _ (PySem.mem_of_lookup hy))
 ·exact Nat.le_of_lt (x.above y c (PySem.mem_of_lookup h))
 ·have hi:i < vs.length:=by
   unfold start at h2
   by_cases hi:i < vs.length
   ·exact hi
   ·rw[List.getElem?_append_right (by simpa using hi)]at h2
    rw[List.getElem?_replicate]at h2
    split at h2 <;> cases h2
  have ha:vs[i]?=some v:=by
   unfold start at h2
   rw[List.getElem?_append_left (by simpa using hi),List.getElem?_map]at h2
   cases e:vs[i]? with
   | none=>rw[e]at h2; cases h2
   | some a=>rw[e]at h2; cases h2; rfl
  obtain⟨u,hu,rv⟩:=r.get ha
  have hp:ps[i]?=some y:=by
   rw[← S.pre,List.getElem?_take_of_lt (by omega)]; exact h1
  have ndP:ps.Nodup:=by rw[← S.pre]; exact S.nd.sublist (List.take_sublist _ _)
  refine⟨u,rv,?_⟩
  rcases S.par y (List.mem_of_getElem? hp) with k | k
  ·exact .inl ⟨k,zBO ndP hp hu k⟩
  ·obtain⟨c,e⟩:=zA9 (n:=s.heap.objs.size+1) k
   refine .inr ⟨.inl k,c,e,?_⟩
   have q:=x.cell y c e
   rw[zBS ndP hp hu (by show scope.names.lookup y≠_; rw[k]; decide)]at q
   exact q
 ·exact e0.hok.fresh (Nat.le_of_lt (x.above y c (PySem.mem_of_lookup h)))
 ·unfold start
  show _=N.length
  rw[List.length_append,List.length_map,List.length_replicate]
  omega
theorem zHw{CX:CXT}{P:Program}{w:World}{K:PySem.W.Frag}{mg:Str->Option Value}{base:Heap}{k:Nat}{f:Addr}{name qual:Str}{params:Arguments}{body:List Stmt}{scope:Scope}{dV kV doc pm cdv ct oc:Value}{an od:Option Addr}
  {osl:Array (Option Value)} {N ps:List Str} {sp:Sp} (lk:K.lookup f=some ⟨oc,od,.func (PySem.W.fnOf name qual params body scope dV kV doc pm an cdv ct),osl⟩) (hcd:PySem.W.codeIn K cdv qual=true) (S:FnScope N ps scope)
  (len:∀ vs H Q E,sp vs H Q E->vs.length=ps.length)
  (hbody:∀ (A:Around) (outer:List Env) (s:Shared) (H:Hp) (vs:List V) (Q:VK) (E:XK),Room k (A.deeper (envOfC qual scope s.heap.objs.size f cdv))->sp vs H Q E ->
   ∃ t,PSs (cxOf CX P w K mg base N qual scope f cdv A outer s H E) body t/\t { nx:=fun _ H'=>Q .non H',rt:=Q } (start N vs) H) :
  FnOk P w K mg base CX (k+1) f (PySem.W.fnOf name qual params body scope dV kV doc pm an cdv ct) ps sp:=by
 refine⟨len,fun A outer s H args us vs Q E hr e0 hb r hsp=>?_⟩
 have hl:=len _ _ _ _ hsp
 have KX:K.In s.heap:=e0.mod.kin.keeps fun b o e=>(e0.bs b o e).1
 have lim:s.heap.NoLimit:=e0.mod.nolimit.keeps fun b o e=>(e0.bs b o e).1
 have hkind:∀ y∈ps.zip us,scope.names.lookup y.1=some .local\/(scope.names.lookup y.1=some .cell/\((cellsFrom (s.heap.objs.size+1) scope.names []).lookup y.1).isSome=true):=fun ⟨n,v⟩ hy=>by
  rcases S.par n (List.of_mem_zip hy).1 with q | q
  ·exact .inl q
  ·exact .inr ⟨q,PySem.W.cellsFrom_some _ _ _ (.inl q)⟩
 refine codeAny_call_function hr.depth (KX _ _ lk) rfl S.co S.gen rfl (PySem.W.codeRec_of KX hcd) (hb _ _ _ _ ?_)
 refine wpAny_newFunctionEnv_cells S.kind hkind fun env he s1 x=>?_
 subst he
 refine⟨lim.keeps x.toInCall.keep,codeAny_func ?_⟩
 obtain⟨t,ht,hq⟩:=hbody A outer s H vs Q E (hr.deeper _) hsp
 have I:Inv (cxOf CX P w K mg base N qual scope f cdv A outer s H E) [] (start N vs) H s1:=zGc S hr.hd e0 hl r x
 refine wpAny_mono (ht [] s1 (start N vs) H _ I hq) (fun fl s' hs=>?_) fun e s' hs=>hs
 have fin:∀ {σ':St} {H':Hp} {v:V} {u:Value},Inv (cxOf CX P w K mg base N qual scope f cdv A outer s H E) [] σ' H' s'->RelV v u->Q v H'->CE outer P w H s Q u s' :=
  fun {σ' H' v u} J rv q=>⟨v,H',J.os,J.bare,J.base,J.hok,rv,q⟩
 cases fl with
 | ret u =>
  obtain⟨v,σ',H',J,rv,q⟩:=hs
  exact fin J rv q
 | next =>
  obtain⟨σ',H',J,q⟩:=hs
  exact fin (v:=V.non) (u:=Value.none) J rfl q
 | brk =>
  obtain⟨_,_,_,q⟩:=hs
  exact False.elim q
 | cont =>
  obtain⟨_,_,_,q⟩:=hs
  exact False.elim q
section
variable {X:Cx}{x:Str}{p pos:Pos}{e:Expr}{es:List Expr}{t:TA}{id T:String}{r:List V->Hp->VK->Prop}
def tCB(r:List V->Hp->VK->Prop)(t:TA):TE:=fun σ H Q=>t σ H fun vs H1=>r vs H1 Q
theorem zEJ(hc:CallR X (.builtin id) r)(hg:Gl X x)(hm:X.mg x=none)(hv:bootBuiltins x=some (.builtin id))(ha:PA X (e::es) t)(hn:x≠"__name__":=by decide)(hdb:(x == ("__debug__":Str))=false:=by decide)
  (he:starEach (e::es) X.env=(false,eval e X.env)::starEach es X.env:=by rfl) (hpl:(backTo pos (starEach es X.env)).any (·.1)=false:=by rfl):PE X (.Call (.Name x p) (e::es) [] pos) (tCB r t):=by
 intro pins s σ H Q I h
 refine wpAny_Call_Name_kw (zAs I hg hm hv ?_ hn hdb)
 exact PyProof.Rows.callWith_builtin1 (thn (ha pos pins s σ H _ I h) fun us s1 ⟨vs,H1,I1,r1,q1⟩=>hc pins s1 σ H1 vs us Q I1 r1 q1) he hpl
theorem zAn(hc:CallR X (.type T) r)(hg:Gl X x)(hm:X.mg x=none)(hv:bootBuiltins x=some (.type T))(ha:PA X (e::es) t)(hn:x≠"__name__":=by decide)(hdb:(x == ("__debug__":Str))=false:=by decide)
  (he:starEach (e::es) X.env=(false,eval e X.env)::starEach es X.env:=by rfl) (hpl:(backTo pos (starEach es X.env)).any (·.1)=false:=by rfl):PE X (.Call (.Name x p) (e::es) [] pos) (tCB r t):=by
 intro pins s σ H Q I h
 refine wpAny_Call_Name_kw (zAs I hg hm hv ?_ hn hdb)
 exact PyProof.Rows.callWith_type1 (thn (ha pos pins s σ H _ I h) fun us s1 ⟨vs,H1,I1,r1,q1⟩=>hc pins s1 σ H1 vs us Q I1 r1 q1) he hpl
end
end L2
namespace HT
open PySem PyProof.Rows
def lexLt:List Int->List Int->Bool
 | [],[]=>false
 | [],_::_=>true
 | _::_,[]=>false
 | x::xs,y::ys=>if x=y then lexLt xs ys else decide (x < y)
section
open PySem.SeqAt
open PySem.AutoSeq1 (wpAny_loadPart')
open PySem.MeetsSeq PySem.MeetsSeq2 PySem.MeetsSeq3
end
section
variable {prog:Program}{w:World}{A:Around}{E:Value->Shared->Prop}{s:Shared}
theorem cat_tup{t b:Addr}{vs ws:List Value}{Q:Value->Shared->Prop}(ht:IsTup s.heap t vs.toArray)(hb:IsTup s.heap b ws.toArray)(hv:vs≠[])
  (h1:ws=[]->Q (.ref t) s) (h2:ws≠[]->Q (.ref s.heap.objs.size) { s with heap:=s.heap.push { cls:=.type "tuple",data:=.seq (vs++ws).toArray } })
  (hsz:vs.length+ws.length<=sizeLine):wpAny (model prog w) A (binaryOp .Add (.ref t) (.ref b)) Q E s:=by
 obtain⟨⟨cls,dd,data,sl⟩,ho,hc,n,hd⟩:=id ht
 obtain⟨⟨cls2,dd2,data2,sl2⟩,ho2,hc2,n2,hd2⟩:=id hb
 simp only at hc hd hc2 hd2
 subst hc hd hc2 hd2
 have e:vs.toArray++ws.toArray=(vs++ws).toArray:=by simp
 by_cases hw:ws=[]
 ·exact concat_meets ⟨_,ho,rfl⟩ ⟨_,ho2,rfl⟩ noFill_tuple_add seq_tuple_add PySem.F.slot_tuple_add PySem.F.entry_tuple_add (PySem.F.args_tuple_add_2 _ _)
   (tuple_addW1 t b vs.toArray ws.toArray n n2 dd dd2 sl sl2 (by simpa using hv) (by simp[hw])) ⟨ho,ho2,h1 hw⟩
 ·refine concat_meets ⟨_,ho,rfl⟩ ⟨_,ho2,rfl⟩ noFill_tuple_add seq_tuple_add PySem.F.slot_tuple_add PySem.F.entry_tuple_add (PySem.F.args_tuple_add_2 _ _)
   (tuple_addW2 t b vs.toArray ws.toArray n n2 dd dd2 sl sl2 (by simpa using hv) (by simpa using hw) (by rw[List.size_toArray,List.size_toArray]; exact hsz)) ⟨ho,ho2,?_⟩
  rw[e]
  exact h2 hw
def sIx(n d:Nat):Option Int->Nat
 | none=>d
 | some v=>if v < 0 then (v+(n:Int)).toNat else min v.toNat n
theorem sIx_none(n d:Nat):sIx n d none=d:=rfl
theorem sIx_nat(n d k:Nat):sIx n d (some (k:Int))=min k n:=by
 show (if (k:Int) < 0 then ((k:Int)+(n:Int)).toNat else min (k:Int).toNat n)=min k n
 rw[if_neg (by omega),Int.toNat_natCast]
theorem zJH(n d:Nat)(hd:d<=n)(o:Option Int):sIx n d o<=n:=by
 cases o with
 | none=>exact hd
 | some v =>
  show (if v < 0 then (v+(n:Int)).toNat else min v.toNat n)<=n
  by_cases hv:v < 0
  ·rw[if_pos hv]; omega
  ·rw[if_neg hv]; exact Nat.min_le_right _ _
theorem zEf(v:Int)(n d:Nat):(if v < 0 then max (v+(n:Int)) 0 else min v (n:Int))=((sIx n d (some v):Nat):Int):=by
 show (if v < 0 then max (v+(n:Int)) 0 else min v (n:Int))=(((if v < 0 then (v+(n:Int)).toNat else min v.toNat n):Nat):Int)
 by_cases hv:v < 0
 ·simp only[if_pos hv]; omega
 ·simp only[if_neg hv]; omega
theorem zFT(lo hi:Option Int)(n:Nat):Builtin.Slice.sliceAdjust lo hi 1 (n:Int)=(((sIx n 0 lo:Nat):Int),((sIx n n hi:Nat):Int)):=by
 have h1:¬ ((1:Int) < 0):=by omega
 unfold Builtin.Slice.sliceAdjust
 simp only[h1,if_false]
 refine Prod.ext ?_ ?_
 ·cases lo with
  | none=>rfl
  | some v=>exact zEf v n 0
 ·cases hi with
  | none=>rfl
  | some v=>exact zEf v n n
theorem zFc(i j:Nat):Builtin.Slice.slicePlaces (i:Int) (j:Int) 1=j - i:=by
 unfold Builtin.Slice.slicePlaces
 have h1:(1:Int) > 0:=by omega
 simp only[h1,if_true,Int.ediv_one]
 split <;> omega
theorem zCD{v:Value}{o:Option Int}{Q:Option Int->Shared->Prop}(p:IsPart v o)(h:Q o s):wpAny (model prog w) A (Builtin.Slice.slicePartIndex v) Q E s:=by
 cases p with
 | none=>exact slicePart_none h
 | int i t=>exact slicePart_int h
theorem sliceApplied_gen{sl:Addr}{vl vu:Value}{lo hi:Option Int}{n:Nat}{Q:Int×Int×Nat->Shared->Prop}(hs:s.heap.IsSliceOf sl vl vu .none)(pl:IsPart vl lo)(pu:IsPart vu hi)
  (h:Q (((sIx n 0 lo:Nat):Int),1,sIx n n hi - sIx n 0 lo) s):wpAny (model prog w) A (Builtin.Slice.sliceApplied (.ref sl) (pure (n:Int))) Q E s:=by
 obtain⟨os,hos,hcs,hds⟩:=id hs
 unfold Builtin.Slice.sliceApplied Builtin.Slice.sliceFields
 refine wpAny_bind (wpAny_bind (wpAny_field hos hds (x:=vl) rfl (wpAny_bind (wpAny_field hos hds (x:=vu) rfl (wpAny_bind (wpAny_field hos hds (x:=.none) rfl (wpAny_pure ?_)))))))
 refine wpAny_bind (slicePart_none ?_)
 show wpAny _ _ (if ((1:Int) == 0)=true then _ else _) _ _ s
 rw[if_neg (by decide)]
 refine wpAny_bind (zCD pl (wpAny_bind (zCD pu (wpAny_bind (wpAny_pure ?_)))))
 show wpAny _ _ (match Builtin.Slice.sliceAdjust lo hi 1 (n:Int) with | (lo,hi)=>pure (lo,(1:Int),Builtin.Slice.slicePlaces lo hi 1)) _ _ s
 rw[zFT lo hi n]
 show wpAny _ _ (pure (((sIx n 0 lo:Nat):Int),(1:Int),Builtin.Slice.slicePlaces ((sIx n 0 lo:Nat):Int) ((sIx n n hi:Nat):Int) 1)) _ _ s
 rw[zFc]
 exact wpAny_pure h
theorem zHM(xs:Array Value)(i k:Nat):((List.range k).filterMap fun (m:Nat)=>xs[((i:Int)+(m:Int) * 1).toNat]?).toArray=((xs.toList.drop i).take k).toArray:=by
 have e:(fun (m:Nat)=>xs[((i:Int)+(m:Int) * 1).toNat]?)=fun m=>xs[i+m]?:=by
  funext m
  have:((i:Int)+(m:Int) * 1).toNat=i+m:=by omega
  rw[this]
 rw[e]
 have:=pick_run xs i k
 rw[List.filterMap_map]at this
 have e2:((fun x=>xs[x]?) ∘ fun x=>i+x)=fun m=>xs[i+m]?:=rfl
 rw[e2]at this
 rw[this]
theorem qY{t sl:Addr}{items:Array Value}{vl vu:Value}{lo hi:Option Int}{Q:Value->Shared->Prop}(ht:IsTup s.heap t items)(hs:s.heap.IsSliceOf sl vl vu .none)(pl:IsPart vl lo)(pu:IsPart vu hi)
  (hw:¬ (sIx items.size 0 lo=0/\sIx items.size items.size hi=items.size))
  (h:Q (.ref s.heap.objs.size) { s with heap:=s.heap.push { cls:=.type "tuple",data:=.seq ((items.toList.drop (sIx items.size 0 lo)).take (sIx items.size items.size hi - sIx items.size 0 lo)).toArray } })
  (hsz:items.size<=sizeLine):wpAny (model prog w) A (getItem (.ref t) (.ref sl)) Q E s:=by
 have htake:sizeOk (.seq ((items.toList.drop (sIx items.size 0 lo)).take (sIx items.size items.size hi - sIx items.size 0 lo)).toArray):=by
  show ((items.toList.drop (sIx items.size 0 lo)).take (sIx items.size items.size hi - sIx items.size 0 lo)).toArray.size<=sizeLine
  rw[List.size_toArray,List.length_take,List.length_drop,Array.length_toList]
  omega
 have hj:sIx items.size items.size hi<=items.size:=zJH _ _ (Nat.le_refl _) hi
 obtain⟨os,hos,hcs,hds⟩:=id hs
 have hTs:s.TypeIs (.ref sl) "slice":=⟨os,hos,hcs⟩
 unfold getItem
 try with_reducible refine wpAny_holding ?_
 first | refine wpAny_bind (wpAny_pure ?_) | skip
 refine wpAny_bind (wpAny_sequenceKey ht.typeIs (by decide) ?_)
 refine wpAny_bind (wpAny_callSpecial?_slot (name:=Str.ofString "__getitem__") ht.typeIs PyProof.Rows.slot_tuple_getitem
  (wpAny_call_entry PyProof.Rows.slot_tuple_getitem ht.typeIs entry_tuple_getitem ?_ (args_tuple_getitem _ _)))
 show wpAny _ _ (Builtin.Tuple.tupleItemsOf (.ref t) >>= _) _ _ s
 refine wpAny_bind (tupleItemsOf_ ht ?_)
 refine wpAny_bind (wpAny_typeOf hTs ?_)
 rw[if_pos (by decide)]
 refine wpAny_bind (sliceApplied_gen hs pl pu ?_)
 have hno:¬ ((((sIx items.size 0 lo:Nat):Int) == 0 && (1:Int) == 1 && (sIx items.size items.size hi - sIx items.size 0 lo) == items.size)=true):=by
  intro q
  rw[Bool.and_eq_true,Bool.and_eq_true]at q
  have q1:((sIx items.size 0 lo:Nat):Int)=0:=eq_of_beq q.1.1
  have q2:sIx items.size items.size hi - sIx items.size 0 lo=items.size:=eq_of_beq q.2
  exact hw ⟨by omega,by omega⟩
 show wpAny _ _ (if (((sIx items.size 0 lo:Nat):Int) == 0 && (1:Int) == 1 && (sIx items.size items.size hi - sIx items.size 0 lo) == items.size)=true then _ else _) _ _ s
 rw[if_neg hno,zHM]
 first
  | exact wpAny_bind (m:=Builtin.Tuple.tupleExact _) (wpAny_newObj_type (wpAny_pure ⟨_,rfl,wpAny_pure h⟩) htake)
  | exact wpAny_bind (m:=Builtin.Tuple.tupleExact _) (wpAny_newObj_type (wpAny_bind (wpAny_pure (wpAny_pure ⟨_,rfl,wpAny_pure h⟩))) htake)
  | exact wpAny_bind (wpAny_bind (m:=Builtin.Tuple.tupleExact _) (wpAny_newObj_type (wpAny_pure (wpAny_pure ⟨_,rfl,wpAny_pure h⟩)) htake))
  | exact wpAny_bind (wpAny_bind (m:=Builtin.Tuple.tupleExact _) (wpAny_newObj_type (wpAny_pure ⟨_,rfl,wpAny_pure h⟩) htake))
end
end HT
namespace L2
open PySem PySem.Spec PyProof.Rows
abbrev TO:=St->Hp->(Option Int->Hp->Prop)->Prop
def PO(X:Cx)(e:Option Expr)(t:TO):Prop :=
 ∀ (pins:List (Addr×Obj)) (s:Shared) (σ:St) (H:Hp) (Q:Option Int->Hp->Prop),Inv X pins σ H s->t σ H Q ->
  wpAny (model X.prog X.w) X.A (evalPart e X.env) (fun u s'=>∃ o H',Inv X pins σ H' s'/\IsPart u o/\Q o H') X.xe s
def tNoPart:TO:=fun _ H Q=>Q none H
def tPart(t:TE):TO:=fun σ H Q=>t σ H fun x H1=>∃ i,x=.int i/\Q (some i) H1
section
variable {X:Cx}{e:Expr}{te:TE}{lo hi:Option Expr}{tl th:TO}{pos p2:Pos}
theorem zH5:PO X none tNoPart:=by
 intro pins s σ H Q I h
 rw[evalPart_none]
 exact wpAny_pure ⟨none,H,I,.none,h⟩
theorem zIL(h:PE X e te):PO X (some e) (tPart te):=by
 intro pins s σ H Q I hw
 rw[evalPart_some]
 refine thn (h pins s σ H _ I hw) fun u s1 ⟨x,H1,I1,r1,q1⟩=>?_
 obtain⟨i,rfl,q⟩:=q1
 obtain⟨t,rfl⟩:=r1
 exact⟨some i,H1,I1,.int i t,q⟩
def SlR(X:Cx)(r:V->Option Int->Option Int->Hp->VK->Prop):Prop :=
 ∀ (pins:List (Addr×Obj)) (s:Shared) (σ:St) (H:Hp) (x:V) (v vl vu:Value) (lo hi:Option Int) (sl:Addr) (Q:VK),Inv X pins σ H s->RelV x v->s.heap.IsSliceOf sl vl vu .none->IsPart vl lo->IsPart vu hi->r x lo hi H Q ->
  ∃ T id,typeLookup (.type T) "__getitem__"=pure (some (.builtin id))/\s.TypeIs v T/\wpAny (model X.prog X.w) X.A (getItem v (.ref sl)) (EP X pins σ Q) X.xe s
theorem SlR.or{r r':V->Option Int->Option Int->Hp->VK->Prop}(h:SlR X r)(h':SlR X r'):SlR X (fun x lo hi H Q=>r x lo hi H Q\/r' x lo hi H Q):=by
 intro pins s σ H x v vl vu lo hi sl Q I rx hs pl pu q
 rcases q with q | q
 ·exact h pins s σ H x v vl vu lo hi sl Q I rx hs pl pu q
 ·exact h' pins s σ H x v vl vu lo hi sl Q I rx hs pl pu q
def tSl(r:V->Option Int->Option Int->Hp->VK->Prop)(te:TE)(tl th:TO):TE:=fun σ H Q=>te σ H fun x H1=>tl σ H1 fun l H2=>th σ H2 fun u H3=>r x l u H3 Q
theorem zDv{r:V->Option Int->Option Int->Hp->VK->Prop}(hr:SlR X r)(he:PE X e te)(hl:PO X lo tl)(hu:PO X hi th):PE X (.Subscript e (.Slice lo hi none p2) pos) (tSl r te tl th):=by
 intro pins s σ H Q I h
 refine Subscript_ (thn (he pins s σ H _ I h) fun v s1 ⟨x,H1,I1,r1,q1⟩=>?_)
 refine wpAny_Slice (thn (hl pins s1 σ H1 _ I1 q1) fun vl s2 ⟨l,H2,I2,pl,q2⟩=>thn (hu pins s2 σ H2 _ I2 q2) fun vu s3 ⟨u,H3,I3,pu,q3⟩=>?_)
 rw[evalPart_none]
 refine wpAny_pure ?_
 have I4:Inv X pins σ H3 { s3 with heap:=s3.heap.push { cls:=.type "slice",data:=.fields #[vl,vu,.none] } }:=I3.kept (t':=s3.toks) fun b ob q=>Heap.get?_push_of_some _ q
 obtain⟨T,id,hT,ht,hg⟩:=hr pins { s3 with heap:=s3.heap.push { cls:=.type "slice",data:=.fields #[vl,vu,.none] } } σ H3 x v vl vu l u s3.heap.objs.size Q I4 r1 (Heap.IsSliceOf.new ..) pl pu q3
 show wpAny (model X.prog X.w) X.A (subscriptTail e (.Slice lo hi none p2) v (.ref s3.heap.objs.size)) (EP X pins σ Q) X.xe { s3 with heap:=s3.heap.push { cls:=.type "slice",data:=.fields #[vl,vu,.none] } }
 exact tail_any (ops:=[.ref s3.heap.objs.size,v]) ht hT hg (by with_unfolding_all rfl)
def cutV(xs:List V)(lo hi:Option Int):List V:=(xs.drop (HT.sIx xs.length 0 lo)).take (HT.sIx xs.length xs.length hi - HT.sIx xs.length 0 lo)
theorem zBq(xs:List V)(lo hi:Option Int):(cutV xs lo hi).length<=xs.length:=by
 unfold cutV
 rw[List.length_take,List.length_drop]
 omega
end
def ixN(n:Nat)(i:Int):Option Nat:=if 0<=i then (if i < n then some i.toNat else none) else if -(n:Int)<=i then some (i+n).toNat else none
def atI{α:Type}(xs:List α)(i:Int):Option α:=(ixN xs.length i).bind fun j=>xs[j]?
theorem zCb{n:Nat}{i:Int}{j:Nat}(h:ixN n i=some j):seqIndex? i n=some j/\j < n/\-(n:Int)<=i/\i < n:=by
 unfold ixN at h
 by_cases h0:0<=i
 ·rw[if_pos h0]at h
  by_cases h1:i < n
  ·rw[if_pos h1]at h
   have e:i.toNat=j:=Option.some.inj h
   exact⟨by rw[seqIndex_of h0 h1,e],by omega,by omega,h1⟩
  ·rw[if_neg h1]at h; cases h
 ·rw[if_neg h0]at h
  by_cases h1:-(n:Int)<=i
  ·rw[if_pos h1]at h
   have e:(i+n).toNat=j:=Option.some.inj h
   exact⟨by rw[seqIndex_neg (by omega) h1,e],by omega,h1,by omega⟩
  ·rw[if_neg h1]at h; cases h
theorem zCc{α:Type}{xs:List α}{i:Int}{v:α}(h:atI xs i=some v):∃ j,seqIndex? i xs.length=some j/\xs[j]?=some v/\j < xs.length/\-(xs.length:Int)<=i/\i < xs.length:=by
 unfold atI at h
 cases e:ixN xs.length i with
 | none=>rw[e]at h; cases h
 | some j =>
  rw[e]at h
  obtain⟨h1,h2,h3,h4⟩:=zCb e
  exact⟨j,h1,h,h2,h3,h4⟩
def PlainIx(b:Expr):Prop:=∀ o i,subscripted b false o i=operate [o,i] (getItem o i)
def IxR(X:Cx)(r:R2):Prop :=
 ∀ (value slice:Expr) (pins:List (Addr×Obj)) (s:Shared) (σ:St) (H:Hp) (x y:V) (v u:Value) (Q:VK),Inv X pins σ H s->RelV x v->RelV y u->r x y H Q ->
  subscripted slice false v u=operate [v,u] (getItem v u)->wpAny (model X.prog X.w) X.A (subscriptTail value slice v u) (EP X pins σ Q) X.xe s
def MtR(X:Cx)(id:String)(r:V->List V->Hp->VK->Prop):Prop :=
 ∀ (pins:List (Addr×Obj)) (s:Shared) (σ:St) (H:Hp) (x:V) (xs:List V) (v:Value) (us:List Value) (Q:VK),Inv X pins σ H s->RelV x v->Vals xs us->r x xs H Q ->
  wpAny (model X.prog X.w) X.A (call (.builtin id) (v::us)) (EP X pins σ Q) X.xe s
section
variable {X:Cx}{a b:Expr}{ta tb:TE}{pos:Pos}
theorem IxR.or{r r':R2}(h:IxR X r)(h':IxR X r'):IxR X (fun x y H Q=>r x y H Q\/r' x y H Q):=by
 intro value slice pins s σ H x y v u Q I rx ry q hs
 rcases q with q | q
 ·exact h value slice pins s σ H x y v u Q I rx ry q hs
 ·exact h' value slice pins s σ H x y v u Q I rx ry q hs
theorem zJ9{r:R2}(hr:IxR X r)(ha:PE X a ta)(hb:PE X b tb)(hs:PlainIx b):PE X (.Subscript a b pos) (tOp r ta tb):=by
 intro pins s σ H Q I h
 exact Subscript_ (binT ha hb I h fun v u s2 x y H2 I2 rx ry q=>hr a b pins s2 σ H2 x y v u Q I2 rx ry q (hs _ _))
def rIxL(K:PySem.W.Frag):R2:=fun x y H Q=>∃ p xs i v,x=.ref p/\y=.int i/\SqL K H p xs/\atI xs i=some v/\Q v H
def rIxT(K:PySem.W.Frag):R2:=fun x y H Q=>∃ p xs i v,x=.ref p/\y=.int i/\SqT K H p xs/\atI xs i=some v/\Q v H
def rIxS:R2:=fun x y H Q=>∃ z i c,x=.str z/\y=.int i/\z.length<=sizeLine/\atI z.cps.toList i=some c/\Q (.str ⟨#[c]⟩) H
theorem zIm:IxR X (rIxL X.K):=by
 intro value slice pins s σ H x y v u Q I rx ry h hs
 obtain⟨p,xs,i,z,rfl,rfl,hq,he,q⟩:=h
 cases rx
 obtain⟨t,rfl⟩:=ry
 obtain⟨its,r,pl,hz⟩:=I.list hq
 obtain⟨j,h1,h2,h3,h4,h5⟩:=zCc he
 obtain⟨w,ew,rw'⟩:=r.get h2
 have hl:=r.length
 have hn:=line63
 have fin:EP X pins σ Q w s:=⟨z,H,I,rw',q⟩
 by_cases h0:0<=i
 ·have hj:i.toNat=j:=by
   rw[seqIndex_of h0 h5]at h1
   exact Option.some.inj h1
  exact item_listR pl.isList h0 (by omega) (by rw[hj]; simpa using ew) fin hs
 ·have hj:(i+(its.toArray.size:Int)).toNat=j:=by
   rw[seqIndex_neg (by omega) h4]at h1
   rw[List.size_toArray,← hl]
   exact Option.some.inj h1
  exact subscriptTail_builtinR (x:=w) pl.isList.typeIs slot_list_getitem.lookup
   (wpAny_getItem_list_neg (Q:=fun r s'=>r=w/\EP X pins σ Q r s') pl.isList (by omega) (by rw[List.size_toArray] <;> omega) (by omega) (by rw[hj]; simpa using ew) ⟨rfl,fin⟩) hs
theorem zJc:IxR X (rIxT X.K):=by
 intro value slice pins s σ H x y v u Q I rx ry h hs
 obtain⟨p,xs,i,z,rfl,rfl,hq,he,q⟩:=h
 cases rx
 obtain⟨t,rfl⟩:=ry
 obtain⟨its,r,pl,hz⟩:=I.tuple hq
 obtain⟨j,h1,h2,h3,h4,h5⟩:=zCc he
 obtain⟨w,ew,rw'⟩:=r.get h2
 have hl:=r.length
 have hn:=line63
 have fin:EP X pins σ Q w s:=⟨z,H,I,rw',q⟩
 exact subscriptTail_builtinR (x:=w) pl.typeIs slot_tuple_getitem.lookup
  (getItem_tuple (j:=j) (Q:=fun r s'=>r=w/\EP X pins σ Q r s') pl (by omega) (by omega) (by rw[List.size_toArray,← hl]; exact h1) (by simpa using ew) ⟨rfl,fin⟩) hs
theorem zJg:IxR X rIxS:=by
 intro value slice pins s σ H x y v u Q I rx ry h hs
 obtain⟨z,i,c,rfl,rfl,hz,he,q⟩:=h
 obtain⟨t,rfl⟩:=rx
 obtain⟨t',rfl⟩:=ry
 obtain⟨j,h1,h2,h3,h4,h5⟩:=zCc he
 have hl:z.cps.toList.length=z.length:=by simp[Str.length]
 rw[hl]at h1 h4 h5
 have hn:=line63
 exact tail_any (typeIs_str s z t) slot_str_getitem.lookup (getItem_str (c:=c) (by
  have e1:decide (i < -(2 ^ 63:Int))=false:=decide_eq_false (by omega)
  have e2:decide (i ≥ 2 ^ 63)=false:=decide_eq_false (by omega)
  rw[e1,e2,Bool.or_false]) (by rw[h1]; simpa using h2) ⟨.str ⟨#[c]⟩,H,I.tok _,⟨_,rfl⟩,q⟩) hs
def rIx(K:PySem.W.Frag):R2:=fun x y H Q=>rIxL K x y H Q\/rIxT K x y H Q\/rIxS x y H Q
theorem zJl:IxR X (rIx X.K):=zIm.or (zJc.or zJg)
theorem zFd(its:List Value)(n j:Nat)(u:Value):Obj.mapSeq (·.setIfInBounds j u) { cls:=.type "list",data:=.seq its.toArray n }={ cls:=.type "list",data:=.seq (its.set j u).toArray n }:=by
 simp[Obj.mapSeq]
theorem Inv.lst{pins:List (Addr×Obj)}{σ:St}{H:Hp}{s:Shared}{p:Addr}{xs:List V}(I:Inv X pins σ H s)(h:H p=some (.lst xs)) :
  ∃ (its:List Value) (n:Nat),Vals xs its/\s.heap.get? p=some { cls:=.type "list",data:=.seq its.toArray n }/\xs.length<=sizeLine:=by
 obtain⟨z,its,n,r,e⟩:=I.hok p _ h
 exact⟨its,n,r,e,z⟩
theorem Inv.lstUpd{pins:List (Addr×Obj)}{σ:St}{H:Hp}{s:Shared}{p:Addr}{xs ys:List V}{its its':List Value}{n n':Nat}{f:Obj->Obj}(I:Inv X pins σ H s)(h:H p=some (.lst xs))
  (ho:s.heap.get? p=some { cls:=.type "list",data:=.seq its.toArray n }) (hf:f { cls:=.type "list",data:=.seq its.toArray n }={ cls:=.type "list",data:=.seq its'.toArray n' }) (r:Vals ys its') (hz:ys.length<=sizeLine) (t:Nat) :
  Inv X pins σ (upd H p (.lst ys)) { s with heap:=s.heap.update p f,toks:=t }:=by
 have e:(s.heap.update p f).get? p=some { cls:=.type "list",data:=.seq its'.toArray n' }:=by
  rw[Heap.get?_update_self f ho (by rw[hf] <;> rfl),hf]
 refine I.write (x:=p) (e:=p) (by rw[h]; trivial) (.inl rfl) (fun b u hb q=>(Heap.get?_update_other _ _ (Ne.symm hb)).trans q) ⟨_,e⟩ ?_
 exact⟨hz,its',n',r,e⟩
def rSetL:V->V->V->Hp->(Hp->Prop)->Prop:=fun o i v H Q=>∃ p xs k j,o=.ref p/\i=.int k/\H p=some (.lst xs)/\ixN xs.length k=some j/\Q (upd H p (.lst (xs.set j v)))
theorem zBv:PSet X rSetL:=by
 intro pins s σ H o i v ov iv u Q I ro ri rv h
 obtain⟨p,xs,k,j,rfl,rfl,hp,hj,q⟩:=h
 cases ro
 obtain⟨t,rfl⟩:=ri
 obtain⟨its,n,r,ho,hz⟩:=I.lst hp
 obtain⟨h1,h2,h3,h4⟩:=zCb hj
 have hl:=r.length
 have hn:=line63
 have I':Inv X pins σ (upd H p (.lst (xs.set j v))) { s with heap:=s.heap.update p (Obj.mapSeq (·.setIfInBounds j u)) } :=
  I.lstUpd hp ho (zFd its n j u) (r.set rv j) (by rw[List.length_set]; exact hz) s.toks
 by_cases h0:0<=k
 ·have hk:k.toNat=j:=by
   rw[seqIndex_of h0 h4]at h1
   exact Option.some.inj h1
  exact PySem.W.ki_setAt ho h0 (by omega) (by rw[List.size_toArray,← hl]; exact h4) (by rw[hk]; exact⟨_,I',q⟩)
 ·have hk:(k+(its.toArray.size:Int)).toNat=j:=by
   rw[seqIndex_neg (by omega) h3]at h1
   rw[List.size_toArray,← hl]
   exact Option.some.inj h1
  exact PySem.W.ki_setBack ho (by omega) (by rw[List.size_toArray,← hl]; exact h3) (by omega) (by rw[hk]; exact⟨_,I',q⟩)
theorem zEL(lo hi:Option Int)(n:Nat):(sliceBounds lo hi none n).1=((HT.sIx n 0 lo:Nat):Int)/\(sliceBounds lo hi none n).2.1=((HT.sIx n n hi:Nat):Int)/\(sliceBounds lo hi none n).2.2=1:=by
 refine⟨?_,?_,rfl⟩
 ·cases lo with
  | none=>simp[sliceBounds,HT.sIx]
  | some i =>
   simp only[sliceBounds,HT.sIx,Option.getD_none,show (1:Int) > 0 by decide,if_true]
   by_cases h:i < 0
   ·simp only[h,if_true] <;> omega
   ·simp only[h,if_false] <;> omega
 ·cases hi with
  | none=>simp[sliceBounds,HT.sIx]
  | some i =>
   simp only[sliceBounds,HT.sIx,Option.getD_none,show (1:Int) > 0 by decide,if_true]
   by_cases h:i < 0
   ·simp only[h,if_true] <;> omega
   ·simp only[h,if_false] <;> omega
theorem zDJ(its:List Value)(lo hi:Option Int):slicePick its.toArray lo hi none=((its.drop (HT.sIx its.length 0 lo)).take (HT.sIx its.length its.length hi - HT.sIx its.length 0 lo)).toArray:=by
 obtain⟨h1,h2,h3⟩:=zEL lo hi its.toArray.size
 unfold slicePick
 rw[h1,h2,h3]
 simp only[sliceRange_one,pick_run,List.size_toArray] <;> rfl
def rSlL(K:PySem.W.Frag):V->Option Int->Option Int->Hp->VK->Prop:=fun x lo hi H Q=>∃ a xs,x=.ref a/\SqL K H a xs/\∀ p,H p=none->Q (.ref p) (upd H p (.lst (cutV xs lo hi)))
theorem zIr:SlR X (rSlL X.K):=by
 intro pins s σ H x v vl vu lo hi sl Q I rx hs pl pu h
 obtain⟨a,xs,rfl,hx,q⟩:=h
 cases rx
 obtain⟨its,r,ht,hz⟩:=I.list hx
 have hlen:=r.length
 refine⟨"list",_,slot_list_getitem.lookup,ht.isList.typeIs,?_⟩
 refine wpAny_getItem_list_slice ht.isList hs pl pu .none (by simp) ?_ (by rw[List.size_toArray] <;> omega)
 rw[zDJ,← hlen]
 refine⟨.ref s.heap.objs.size,_,I.laid (t':=s.toks) (o:=.lst (cutV xs lo hi)) (fun b ob q=>Heap.get?_push_of_some _ q) (Nat.le_refl _) ?_,rfl,q _ (I.hok.fresh (Nat.le_refl _))⟩
 exact⟨Nat.le_trans (zBq xs lo hi) hz,_,0,(r.drop (HT.sIx xs.length 0 lo)).take (HT.sIx xs.length xs.length hi - HT.sIx xs.length 0 lo),Heap.get?_push_size _ rfl⟩
def flatV:V->Bool
 | .non=>true
 | .bl _=>true
 | .int _=>true
 | .str _=>true
 | _=>false
def eqV:V->V->Bool
 | .non,.non=>true
 | .bl a,.bl b=>a == b
 | .bl a,.int b=>(if a then 1 else 0) == b
 | .int a,.bl b=>a == (if b then 1 else 0)
 | .int a,.int b=>a == b
 | .str a,.str b=>a == b
 | _,_=>false
theorem zI8{A:Around}{s:Shared}{y x:V}{u v:Value}(ry:RelV y u)(rx:RelV x v)(fy:flatV y=true)(fx:flatV x=true):SeqAt.EqAt A s u v (eqV y x):=by
 cases y with
 | non =>
  cases ry
  cases x with
  | non=>cases rx; exact SeqAt.EqAt.same _
  | bl b=>cases rx; exact SeqAt.EqAt.none_bool b
  | int b=>obtain⟨t,rfl⟩:=rx; exact SeqAt.EqAt.none_int b t
  | str b=>obtain⟨t,rfl⟩:=rx; exact SeqAt.EqAt.none_str b t
  | _=>exact absurd (show false=true from fx) Bool.false_ne_true
 | bl a =>
  cases ry
  cases x with
  | non=>cases rx; exact SeqAt.EqAt.bool_none a
  | bl b=>cases rx; exact SeqAt.EqAt.bool_bool a b
  | int b=>obtain⟨t,rfl⟩:=rx; exact SeqAt.EqAt.bool_int a b t
  | str b=>obtain⟨t,rfl⟩:=rx; exact SeqAt.EqAt.bool_str a b t
  | _=>exact absurd (show false=true from fx) Bool.false_ne_true
 | int a =>
  obtain⟨t',rfl⟩:=ry
  cases x with
  | non=>cases rx; exact SeqAt.EqAt.int_none a t'
  | bl b=>cases rx; exact SeqAt.EqAt.int_bool a t' b
  | int b=>obtain⟨t,rfl⟩:=rx; exact SeqAt.EqAt.int_int a t' b t
  | str b=>obtain⟨t,rfl⟩:=rx; exact SeqAt.EqAt.int_str a t' b t
  | _=>exact absurd (show false=true from fx) Bool.false_ne_true
 | str a =>
  obtain⟨t',rfl⟩:=ry
  cases x with
  | non=>cases rx; exact SeqAt.EqAt.str_none a t'
  | bl b=>cases rx; exact SeqAt.EqAt.str_bool a t' b
  | int b=>obtain⟨t,rfl⟩:=rx; exact SeqAt.EqAt.str_int a t' b t
  | str b=>obtain⟨t,rfl⟩:=rx; exact SeqAt.EqAt.str_str a t' b t
  | _=>exact absurd (show false=true from fx) Bool.false_ne_true
 | _=>exact absurd (show false=true from fy) Bool.false_ne_true
def eqU(x:V)(u:Value):Bool:=match u with
 | .none=>eqV .non x
 | .bool b=>eqV (.bl b) x
 | .int i _=>eqV (.int i) x
 | .str z _=>eqV (.str z) x
 | _=>false
theorem zDW{x y:V}{u:Value}(r:RelV y u)(f:flatV y=true):eqU x u=eqV y x:=by
 cases y with
 | non=>cases r; rfl
 | bl b=>cases r; rfl
 | int i=>obtain⟨t,rfl⟩:=r; rfl
 | str z=>obtain⟨t,rfl⟩:=r; rfl
 | _=>exact absurd (show false=true from f) Bool.false_ne_true
theorem zCd{x:V}:∀ {xs:List V} {us:List Value},Vals xs us->xs.all flatV=true->us.any (eqU x)=xs.any fun y=>eqV y x
 | _,_,.nil,_=>rfl
 | y::xs,u::us,.cons r t,f=>by
  rw[List.all_cons,Bool.and_eq_true]at f
  rw[List.any_cons,List.any_cons,zDW r f.1,zCd t f.2]
theorem zA3{A:Around}{s:Shared}{x:V}{v:Value}(rx:RelV x v)(fx:flatV x=true):∀ {xs:List V} {us:List Value},Vals xs us->xs.all flatV=true->∀ u∈us,SeqAt.EqAt A s u v (eqU x u)
 | _,_,.nil,_=>fun u hu=>by cases hu
 | y::xs,u::us,.cons r t,f=>fun u' hu=>by
  rw[List.all_cons,Bool.and_eq_true]at f
  rcases List.mem_cons.mp hu with rfl | hu
  ·rw[zDW r f.1]; exact zI8 r rx f.1 fx
  ·exact zA3 rx fx t f.2 u' hu
def inV(x:V)(xs:List V):Bool:=xs.any fun y=>eqV y x
def rIn(K:PySem.W.Frag)(neg:Bool):R2:=fun x y H Q=>∃ p xs,y=.ref p/\(SqL K H p xs\/SqT K H p xs)/\flatV x=true/\xs.all flatV=true/\Q (.bl (if neg then !inV x xs else inV x xs)) H
theorem zDj:OpR X (compareOp .NotIn) (rIn X.K true):=by
 intro pins s σ H x y v u Q I rx ry h
 obtain⟨p,xs,rfl,hq,fx,fs,q⟩:=h
 cases ry
 rcases hq with hq | hq
 ·obtain⟨its,r,pl,hz⟩:=I.list hq
  refine SeqAt.notIn_listAt (eqU x) pl.isList (fun w hw=>zA3 rx fx r fs w (by simpa using hw)) ⟨.bl _,H,I,rfl,?_⟩
  rw[show its.toArray.any (eqU x)=its.any (eqU x) by simp,zCd r fs]
  exact q
 ·obtain⟨its,r,pl,hz⟩:=I.tuple hq
  refine SeqAt.notIn_tupleAt (eqU x) pl (fun w hw=>zA3 rx fx r fs w (by simpa using hw)) ⟨.bl _,H,I,rfl,?_⟩
  rw[show its.toArray.any (eqU x)=its.any (eqU x) by simp,zCd r fs]
  exact q
theorem zEG:CallR X (.builtin "len") (fun xs H Q=>∃ p ys,xs=[.ref p]/\(SqL X.K H p ys\/SqT X.K H p ys)/\Q (.int ys.length) H):=by
 intro pins s σ H xs us Q I r h
 obtain⟨p,ys,rfl,hq,q⟩:=h
 obtain⟨u,rfl,rx⟩:=vals1 r
 cases rx
 have hn:=line63
 rcases hq with hq | hq
 ·obtain⟨its,r',pl,hz⟩:=I.list hq
  have hlen:=r'.length
  exact Calls.call_len_list pl.isList (by simp only[List.size_toArray] <;> omega) ⟨.int ys.length,H,I.tok _,⟨s.toks+1,by rw[List.size_toArray,hlen]⟩,q⟩
 ·obtain⟨its,r',pl,hz⟩:=I.tuple hq
  have hlen:=r'.length
  exact len_tuple pl (by simp only[List.size_toArray] <;> omega) ⟨.int ys.length,H,I.tok _,⟨s.toks+1,by rw[List.size_toArray,hlen]⟩,q⟩
theorem zEK:CallR X (.builtin "len") (fun xs H Q=>∃ z,xs=[.str z]/\z.length<=sizeLine/\Q (.int z.length) H):=by
 intro pins s σ H xs us Q I r h
 obtain⟨z,rfl,hz,q⟩:=h
 obtain⟨u,rfl,t,rfl⟩:=vals1 r
 have hn:=line63
 exact len_str (by omega) ⟨.int z.length,H,I.tok _,⟨_,rfl⟩,q⟩
theorem CallR.or{f:Value}{r r':List V->Hp->VK->Prop}(h:CallR X f r)(h':CallR X f r'):CallR X f (fun xs H Q=>r xs H Q\/r' xs H Q):=by
 intro pins s σ H xs us Q I rs q
 rcases q with q | q
 ·exact h pins s σ H xs us Q I rs q
 ·exact h' pins s σ H xs us Q I rs q
theorem zDN:CallR X (.type "tuple") (fun xs H Q=>∃ p ys,xs=[.ref p]/\((SqL X.K H p ys/\∀ l,H l=none->Q (.ref l) (upd H l (.tup ys)))\/(SqT X.K H p ys/\Q (.ref p) H))):=by
 intro pins s σ H xs us Q I r h
 obtain⟨p,ys,rfl,h⟩:=h
 obtain⟨u,rfl,rx⟩:=vals1 r
 cases rx
 rcases h with ⟨hq,q⟩ | ⟨hq,q⟩
 ·obtain⟨its,r',pl,hz⟩:=I.list hq
  have hlen:=r'.length
  refine call_tuple_list pl.isList (fun h' kp=>?_) (by simp only[List.size_toArray] <;> omega)
  have I1:Inv X pins σ H { s with heap:=h' }:=I.kept (t':=s.toks) kp
  have I2:Inv X pins σ (upd H h'.objs.size (.tup ys)) { s with heap:=h'.push { cls:=.type "tuple",data:=.seq its.toArray } } :=
   I1.laid (t':=s.toks) (fun b o e=>Heap.get?_push_of_some _ e) (Nat.le_refl _) (show ObjOk X.prog X.w _ _ _ (.tup ys) from ⟨hz,its,r',TupD.new _ _⟩)
  exact⟨.ref h'.objs.size,_,I2,rfl,q _ (I1.hok.fresh (Nat.le_refl _))⟩
 ·obtain⟨its,r',pl,hz⟩:=I.tuple hq
  exact call_tuple_same pl ⟨.ref p,H,I,rfl,q⟩
def tyV(K:PySem.W.Frag)(T:String)(x:V)(H:Hp):Prop:=match x with
 | .str _=>T="str"
 | .int _=>T="int"
 | .ref p=>(T="list"/\∃ xs,SqL K H p xs)\/(T="tuple"/\∃ o,K.lookup p=some o/\o.cls=.type "tuple"/\o.dict=none) \/
   (T="dict"/\((∃ kvs,H p=some (.dK kvs))\/∃ kvs,H p=some (.dT kvs)))\/(T="set"/\∃ S n,H p=some (.set S n))
 | _=>False
theorem zI7{pins:List (Addr×Obj)}{σ:St}{H:Hp}{s:Shared}{T:String}{x:V}{v:Value}(I:Inv X pins σ H s)(r:RelV x v)(ty:tyV X.K T x H) :
  s.TypeIs v T/\∀ a,v=.ref a->∃ ob,s.heap.get? a=some ob/\ob.dict=none:=by
 cases x with
 | str z =>
  obtain⟨t,rfl⟩:=r
  cases (show T="str" from ty)
  exact⟨typeIs_str s z t,fun _ e=>nomatch e⟩
 | int i =>
  obtain⟨t,rfl⟩:=r
  cases (show T="int" from ty)
  exact⟨typeIs_int s i t,fun _ e=>nomatch e⟩
 | ref p =>
  cases r
  rcases ty with ⟨rfl,xs,hq⟩ | ⟨rfl,o,hk,hc,hd⟩ | ⟨rfl,hk⟩ | ⟨rfl,S,n,hk⟩
  ·obtain⟨its,_,pl,_⟩:=I.list hq
   refine⟨pl.isList.typeIs,fun a e=>?_⟩
   cases e
   obtain⟨o,n,e,c,hd,_⟩:=pl
   exact⟨o,e,hd⟩
  ·refine⟨⟨o,I.kIn p o hk,hc⟩,fun a e=>?_⟩
   cases e
   exact⟨o,I.kIn _ o hk,hd⟩
  ·have z:∃ o,s.heap.get? p=some o/\o.ExactDict:=by
    rcases hk with ⟨kvs,hk⟩ | ⟨kvs,hk⟩
    ·obtain⟨_,_,_,_,o,_,_,e,ex,_⟩:=I.hok p _ hk
     exact⟨o,e,ex⟩
    ·obtain⟨_,_,_,_,o,_,_,e,ex,_⟩:=I.hok p _ hk
     exact⟨o,e,ex⟩
   obtain⟨o,e,ex⟩:=z
   refine⟨⟨o,e,ex.1⟩,fun a e2=>?_⟩
   cases e2
   exact⟨o,e,ex.2.1⟩
  ·obtain⟨o,_,_,_,e,ex,_⟩:=I.hok p _ hk
   refine⟨⟨o,e,ex.1⟩,fun a e2=>?_⟩
   cases e2
   exact⟨o,e,ex.2.1⟩
 | _=>exact False.elim ty
def tBM(K:PySem.W.Frag)(T:String)(r:V->List V->Hp->VK->Prop)(to:TE)(t:TA):TE:=fun σ H Q=>to σ H fun x H1=>tyV K T x H1/\t σ H1 fun xs H2=>r x xs H2 Q
variable {o e:Expr}{es:List Expr}{to:TE}{t:TA}{name:Str}{apos cpos:Pos}{T id:String}{r:V->List V->Hp->VK->Prop}
theorem zH0(pa:PlainAttrs T)(slot:Slot T name id)(hty:typeOf (.builtin id)=pure (.type "method_descriptor"))(hm:MtR X id r)(ho:PE X o to)(ha:PA X (e::es) t)
  (hbase:attributeBase o name X.env (eval o X.env)=eval o X.env:=by rfl)
  (hfew:((backTo cpos (starEach (e::es) X.env)).all (fun x=>!x.1) && (backToKw cpos (keywordEach [] X.env)).all (fun x=>x.1.isSome)
   && decide ((e::es).length+([]:List Keyword).length+(if ([]:List Keyword).isEmpty then 0 else 1) < 30))=true:=by rfl)
  (hline:(apos.endLine == cpos.line)=true:=by rfl) (hs:starEach (e::es) X.env=(false,eval e X.env)::starEach es X.env:=by rfl) (hplain:(backTo cpos (starEach es X.env)).any (·.1)=false:=by rfl) :
  PE X (.Call (.Attribute o name apos) (e::es) [] cpos) (tBM X.K T r to t):=by
 intro pins s σ H Q I h
 refine wpAny_Call_method_late hbase hfew hline rfl (thn (ho pins s σ H _ I h) fun v s1 ⟨x,H1,I1,r1,ty,q1⟩=>?_)
 obtain⟨h1,h2⟩:=zI7 I1 r1 ty
 refine⟨T,id,pa,slot,hty,h1,h2,?_⟩
 have hA:=ha cpos pins s1 σ H1 _ I1 q1
 rw[hs]at hA ⊢
 refine Calls.callWith_builtin (by show (false || (backTo cpos (starEach es X.env)).any (·.1))=false; rw[hplain] <;> rfl) (Calls.evalArgs_plain ?_)
 exact thn hA fun us s2 ⟨vs,H2,I2,r2,q2⟩=>hm pins s2 σ H2 x vs v us Q I2 r1 r2 q2
end
def MtM(X:Cx)(id:String)(r:V->List V->Hp->VK->Prop):Prop :=
 ∀ (pins:List (Addr×Obj)) (s:Shared) (σ:St) (H:Hp) (x:V) (xs:List V) (v:Value) (us:List Value) (Q:VK),Inv X pins σ H s->RelV x v->Vals xs us->r x xs H Q ->
  wpAny (model X.prog X.w) X.A (call (.builtin id) (v::us)) (EP X pins σ Q) X.xe s
theorem Vals.one:∀ {x:V} {us:List Value},Vals [x] us->∃ u,us=[u]/\RelV x u
 | _,_,.cons r .nil=>⟨_,rfl,r⟩
theorem Vals.eraseIdx:∀ {xs:List V} {us:List Value} (i:Nat),Vals xs us->Vals (xs.eraseIdx i) (us.eraseIdx i)
 | _,_,_,.nil=>.nil
 | _,_,0,.cons _ t=>t
 | _,_,i+1,.cons r t=>.cons r (Vals.eraseIdx i t)
theorem Vals.rep{xs:List V}{us:List Value}(h:Vals xs us):∀ k:Nat,Vals (List.replicate k xs).flatten (List.replicate k us).flatten
 | 0=>.nil
 | k+1=>by
  rw[List.replicate_succ,List.replicate_succ,List.flatten_cons,List.flatten_cons]
  exact Vals.append h (Vals.rep h k)
theorem zCt{α:Type}:∀ (l:List α) (i:Nat),(l.eraseIdx i).length<=l.length
 | [],_=>Nat.le_refl _
 | _::_,0=>Nat.le_succ _
 | _::r,i+1=>Nat.succ_le_succ (zCt r i)
theorem zCo(its:List Value):∀ (k:Nat) (acc:List Value),
  List.foldl (fun x1 x2=>x1++x2) acc.toArray (List.replicate k its.toArray)=(acc++(List.replicate k its).flatten).toArray
 | 0,acc=>by simp
 | k+1,acc=>by
  have e:acc.toArray++its.toArray=(acc++its).toArray:=by simp
  have e2:(acc++its)++(List.replicate k its).flatten=acc++(List.replicate (k+1) its).flatten:=by
   rw[List.replicate_succ,List.flatten_cons,List.append_assoc]
  rw[← e2,← zCo its k (acc++its),← e,List.replicate_succ,List.foldl_cons]
section
variable {X:Cx}{pins:List (Addr×Obj)}{σ:St}{H:Hp}{s:Shared}{l b:Addr}{xs ys zs:List V}
theorem Inv.lset{its its':List Value}{n:Nat}{f:Array Value->Array Value}{t':Nat}(I:Inv X pins σ H s)(hH:H l=some (.lst xs))
  (e:s.heap.get? l=some { cls:=.type "list",data:=.seq its.toArray n }) (hf:f its.toArray=its'.toArray) (hv:Vals ys its') (hz:ys.length<=sizeLine) :
  Inv X pins σ (upd H l (.lst ys)) { s with heap:=s.heap.update l (Obj.mapSeq f),toks:=t' }:=by
 have q:=PySem.IsL.update e f
 rw[hf]at q
 refine I.write (x:=l) (e:=l) (by rw[hH]; exact trivial) (.inl rfl) (fun b' u hb hu=>(Heap.get?_update_other s.heap (Obj.mapSeq f) (Ne.symm hb)).trans hu) ⟨_,q⟩ ?_
 exact⟨hz,its',_,hv,q⟩
theorem Inv.lnew{its:List Value}{t':Nat}(I:Inv X pins σ H s)(hv:Vals ys its)(hz:ys.length<=sizeLine) :
  Inv X pins σ (upd H s.heap.objs.size (.lst ys)) { s with heap:=s.heap.push { cls:=.type "list",data:=.seq its.toArray },toks:=t' } :=
 I.laid (fun _ _ q=>Heap.get?_push_of_some _ q) (Nat.le_refl _) ⟨hz,its,0,hv,Heap.get?_push_size _ rfl⟩
theorem Inv.fresh(I:Inv X pins σ H s):H s.heap.objs.size=none:=I.hok.fresh (Nat.le_refl _)
theorem Inv.lstM(I:Inv X pins σ H s)(hH:H l=some (.lst xs)):xs.length<=sizeLine/\∃ (its:List Value) (n:Nat),Vals xs its/\xs.length=its.length/\s.heap.get? l=some { cls:=.type "list",data:=.seq its.toArray n }:=by
 obtain⟨z,its,n,r,e⟩:=I.hok l _ hH
 exact⟨z,its,n,r,r.length,e⟩
theorem notLongL{n:Nat}(h:n<=sizeLine):Builtin.List.listTooLong n=false:=by
 unfold Builtin.List.listTooLong
 exact decide_eq_false (by omega)
end
section
variable {X:Cx}
def rAppend:V->List V->Hp->VK->Prop:=fun x vs H Q=>∃ l xs y,x=.ref l/\vs=[y]/\H l=some (.lst xs)/\xs.length < sizeLine/\Q .non (upd H l (.lst (xs++[y])))
theorem mt_append:MtM X "list.append" rAppend:=by
 intro pins s σ H x vs v us Q I rx rv h
 obtain⟨l,xs,y,rfl,rfl,hH,hz,q⟩:=h
 cases rx
 obtain⟨u,rfl,ru⟩:=rv.one
 obtain⟨z,its,n,r,hl,e⟩:=I.lstM hH
 refine call_meets F.slot_list_append ⟨_,e,rfl⟩ F.entry_list_append (F.args_list_append_2 _ _) (PySem.list_append l its.toArray n u (by rw[List.size_toArray]; omega)) ⟨e,?_⟩
 refine⟨.non,_,I.lset (its':=its++[u]) hH e (by simp) (r.append (.cons ru .nil)) ?_,rfl,q⟩
 rw[List.length_append,List.length_singleton]
 omega
def rExtend:V->List V->Hp->VK->Prop:=fun x vs H Q=>∃ l b xs zs,x=.ref l/\vs=[.ref b]/\H l=some (.lst xs)/\H b=some (.lst zs)/\xs.length+zs.length<=sizeLine/\Q .non (upd H l (.lst (xs++zs)))
theorem zKR:MtM X "list.extend" rExtend:=by
 intro pins s σ H x vs v us Q I rx rv h
 obtain⟨l,b,xs,zs,rfl,rfl,hH,hB,hz,q⟩:=h
 cases rx
 obtain⟨u,rfl,ru⟩:=rv.one
 cases ru
 obtain⟨z,its,n,r,hl,e⟩:=I.lstM hH
 obtain⟨z2,its2,n2,r2,hl2,e2⟩:=I.lstM hB
 have hsz:its.toArray.size+its2.toArray.size<=sizeLine:=by rw[List.size_toArray,List.size_toArray]; omega
 have hlong:¬ (!its.toArray.isEmpty && Builtin.List.listTooLong (its.toArray.size+its2.toArray.size))=true:=by
  rw[notLongL hsz,Bool.and_false]
  exact Bool.false_ne_true
 refine call_meets F.slot_list_extend ⟨_,e,rfl⟩ F.entry_list_extend (F.args_list_extend_2 _ _)
  (AutoSeq1.list_extend_list_list_0 l its.toArray n b its2.toArray n2 hlong (by rw[List.size_toArray]; omega) (by omega)) ⟨e,e2,?_⟩
 refine⟨.non,_,I.lset (its':=its++its2) hH e (by simp) (r.append r2) ?_,rfl,q⟩
 rw[List.length_append]
 omega
def rPopAt:V->List V->Hp->VK->Prop:=fun x vs H Q=>∃ l xs i k y,x=.ref l/\vs=[.int i]/\H l=some (.lst xs)/\-(2 ^ 63)<=i/\i < 2 ^ 63/\seqIndex? i xs.length=some k/\xs[k]?=some y/\Q y (upd H l (.lst (xs.eraseIdx k)))
theorem zHL:MtM X "list.pop" rPopAt:=by
 intro pins s σ H x vs v us Q I rx rv h
 obtain⟨l,xs,i,k,y,rfl,rfl,hH,h1,h2,hk,hy,q⟩:=h
 cases rx
 obtain⟨u,rfl,ru⟩:=rv.one
 obtain⟨t,rfl⟩:=ru
 obtain⟨z,its,n,r,hl,e⟩:=I.lstM hH
 obtain⟨w,hw,rw'⟩:=r.get hy
 refine call_meets F.slot_list_pop ⟨_,e,rfl⟩ F.entry_list_pop (F.args_list_pop_2 _ _)
  (MeetsSeq.list_pop_at l its.toArray n i t k w (fitsIndex_both h1 h2) (by rw[List.size_toArray,← hl]; exact hk) (by rw[← Array.getElem?_toList]; exact hw) (by rw[List.size_toArray]; omega)) ⟨e,?_⟩
 refine⟨y,_,I.lset (its':=its.eraseIdx k) hH e ?_ (r.eraseIdx k) ?_,rw',q⟩
 ·show its.toArray.eraseIdxIfInBounds k=(its.eraseIdx k).toArray
  rw[List.eraseIdxIfInBounds_toArray]
 ·have:=zCt xs k
  omega
def rCat:R2:=fun x y H Q=>∃ l b xs zs,x=.ref l/\y=.ref b/\H l=some (.lst xs)/\H b=some (.lst zs)/\xs.length+zs.length<=sizeLine/\∀ p,H p=none->Q (.ref p) (upd H p (.lst (xs++zs)))
theorem zJP:OpR X (binaryOp .Add) rCat:=by
 intro pins s σ H x y v u Q I rx ry h
 obtain⟨l,b,xs,zs,rfl,rfl,hH,hB,hz,q⟩:=h
 cases rx
 cases ry
 obtain⟨z,its,n,r,hl,e⟩:=I.lstM hH
 obtain⟨z2,its2,n2,r2,hl2,e2⟩:=I.lstM hB
 refine PySem.P.add_list e e2 ?_ (by rw[List.size_toArray,List.size_toArray]; omega)
 have ea:its.toArray++its2.toArray=(its++its2).toArray:=by simp
 rw[ea]
 exact⟨.ref _,_,I.lnew (t':=s.toks) (r.append r2) (by rw[List.length_append]; omega),rfl,q _ I.fresh⟩
def rRep:R2:=fun x y H Q=>∃ l k xs,x=.ref l/\y=.int k/\H l=some (.lst xs)/\-(2 ^ 63)<=k/\k < 2 ^ 63/\xs.length * k.toNat<=sizeLine /\
 ∀ p,H p=none->Q (.ref p) (upd H p (.lst (List.replicate k.toNat xs).flatten))
theorem zId{α:Type}(xs:List α)(k:Nat):(List.replicate k xs).flatten.length=k * xs.length:=by
 induction k with
 | zero=>simp
 | succ k ih=>rw[List.replicate_succ,List.flatten_cons,List.length_append,ih,Nat.succ_mul,Nat.add_comm]
theorem zJk:OpR X (binaryOp .Mult) rRep:=by
 intro pins s σ H x y v u Q I rx ry h
 obtain⟨l,k,xs,rfl,rfl,hH,h1,h2,hz,q⟩:=h
 cases rx
 obtain⟨t,rfl⟩:=ry
 obtain⟨z,its,n,r,hl,e⟩:=I.lstM hH
 have hlen:its.toArray.size * k.toNat<=sizeLine:=by rw[List.size_toArray,← hl]; exact hz
 have hcap:¬ its.toArray.size * k.toNat > (2 ^ 63 - 1) / 8:=by
  have:(sizeLine:Nat)<=(2 ^ 63 - 1) / 8:=by decide
  omega
 have hfit:¬ (!Builtin.List.listFitsIndex k)=true:=by
  rw[fitsIndex_both h1 h2]
  exact Bool.false_ne_true
 have hlong:¬ Builtin.List.listTooLong (its.toArray.size * k.toNat)=true:=by
  rw[notLongL hlen]
  exact Bool.false_ne_true
 have hnew:List.foldl (fun x1 x2=>x1++x2) #[] (List.replicate (if its.toArray.isEmpty=true then 0 else k.toNat) its.toArray)=(List.replicate k.toNat its).flatten.toArray:=by
  have f0:∀ m:Nat,List.foldl (fun x1 x2=>x1++x2) #[] (List.replicate m its.toArray)=(List.replicate m its).flatten.toArray:=fun m=>by
   have:=zCo its m []
   rw[List.nil_append]at this
   exact this
  rw[f0]
  cases its with
  | nil=>simp
  | cons a r'=>rw[if_neg (by simp)]
 refine wpAny_binaryOp_repeat_ref (T:="list") (U:="int") (by decide) ⟨_,e,rfl⟩ (fun s'=>typeIs_int s' k t) noFill_list_mul F.fills_int_mul F.slot_int_rmul repeat_list F.slot_int_index.lookup
  (call_meets F.slot_int_rmul (typeIs_int s k t) F.entry_int_rmul (F.args_int_rmul_2 _ _) (int___rmul___int_list k t l its.toArray n)
   ⟨e,rfl,⟨_,e,rfl⟩,call_meets F.slot_list_mul ⟨_,e,rfl⟩ F.entry_list_mul (F.args_list_mul_2 _ _) (AutoListH.list___mul___list_int_3 l its.toArray n k t hfit hcap hlong) ⟨e,?_⟩⟩)
 rw[hnew]
 exact⟨.ref _,_,I.lnew (t':=s.toks) (r.rep k.toNat) (by rw[zId,Nat.mul_comm]; exact hz),rfl,q _ I.fresh⟩
end
end L2
namespace Att
open PySem PySem.W PySem.Calls PyProof.Rows
theorem zCG{P:Params}{h:Heap}:∀ (ns:List Int) (vs:List Value),WellAll P h vs (ns.map WData.int)->IntsAre vs ns:=by
 intro ns
 induction ns with
 | nil =>
  intro vs w
  rw[List.map_nil]at w
  cases w
  exact .nil
 | cons n ns ih =>
  intro vs w
  rw[List.map_cons]at w
  cases w with
  | cons a b =>
   cases a
   exact .cons _ _ (ih _ b)
theorem zGE{l:OpenLaw}{n:Nat}(hn:l.most=some n){P:Params}{h:Heap}{args:List WData}{vals:List Value}
  (hpre:l.row.toRowW.claim.pre args=true) (hwl:WellAll P h vals args) :
  ∃ a vs ns,vals=[Value.ref a]/\args=[WData.list (ns.map WData.int)]/\h.get? a=some { cls:=.type "list",data:=.seq vs.toArray }/\IntsAre vs ns/\ns.length<=n:=by
 have hsh:WShape.hasAll [] args [.list .int]=true:=(pre_splitW hpre).1
 have hc:l.pre.holds [] { args:=args }=true:=(pre_splitW hpre).2
 obtain⟨d,r,rfl,h1,h2⟩:=hasAllW_cons hsh
 obtain rfl:=hasAllW_nil h2
 obtain⟨xs,rfl,h3⟩:=hasW_list h1
 obtain⟨ns,rfl⟩:=items_int h3
 have hlen:ns.length<=n:=by
  unfold OpenLaw.pre at hc
  have h4:(WTm.not (.lt (.lit (.int (n:Int))) (.len (.arg 0)))).holds [] { args:=[.list (ns.map .int)] }=true:=by
   have h4:=(holds_andW hc).1
   rw[hn]at h4
   exact h4
  have h5:=condW_of h4 (w_not (w_lt w_lit (w_len_list (w_arg rfl))))
  rw[List.length_map]at h5
  refine Nat.le_of_not_lt fun q=>?_
  have q':(n:Int) < ((ns.length:Nat):Int):=by omega
  first
   | (rw[decide_eq_true q']at h5; exact absurd h5 (by decide))
   | (simp at h5; omega)
 cases hwl with
 | cons w1 w2 =>
  cases w2
  cases w1 with
  | list ho hall=>exact⟨_,_,ns,rfl,rfl,ho,zCG ns _ hall,hlen⟩
theorem zF9(l:OpenLaw)(args:List WData):l.row.toRowW.claim.post args (.bool true) args=true :=
 postW_of (r:=l.row.toRowW) (X:=(true == true))
  (show WShape.has [] (.bool true) .bool=true by first | rfl | decide | simp[WShape.has,WShape.arms,WShape.armsAll])
  (show (WTm.eq .res (.lit (.bool true))).value [] { args:=args,res:=some (.bool true),after:=args }=some (.bool (true == true)) from w_eq_bool (w_res rfl) w_lit) rfl
theorem attach_call{l:OpenLaw}{n:Nat}{q:Program}{loose:List Str}{XP:(Str->Option Value)->Heap->Prop}{YP:World->Heap->Prop}{d:DefRec}
  (hn:l.most=some n) (hdf:d.params.defaults=[])
  (call:∀ (w:World) (s₀ s₁:Shared) (mg mb:Str->Option Value) (fa:Addr) (o:Obj) (pm cd doc:Value) (a:Addr) (vs:List Value) (ns:List Int),
   Ground q loose [] XP w s₀ mg mb s₁.heap->YP w s₁.heap ->
   s₁.heap.get? fa=some o->o.data=.func (docDef d.name d.params d.body d.scope pm cd doc)->s₁.heap.CodeRec cd d.name->mg d.name=some (.ref fa) ->
   s₁.heap.get? a=some { cls:=.type "list",data:=.seq vs.toArray }->IntsAre vs ns->ns.length<=n->s₁.gens=#[] ->
   codeAny (model l.prog w) callerA (.call (.ref fa) ⟨[.ref a],[]⟩) (fun r s'=>r=.ok (.ret (.bool true))/\OldK s₁.heap s'.heap/\s'.os=s₁.os/\AllBare s'.gens) s₁) :
  WalkO q loose XP YP l.row.toRowW d [] (fun f vs=>PySem.call f vs):=by
 intro w s₀ s₁ mg mb G Y fa o pm cd doc dV kV ho hd hcd hD hmg hg args vals as hpre hlay hrd hwl hlo
 obtain rfl:dV=.none:=Dflts.none hD hdf
 obtain rfl:kV=.none:=Dflts.noKw hD
 obtain⟨a,vs,ns,rfl,rfl,hobj,hints,hlen⟩:=zGE hn hpre hwl
 refine enter_call (codeAny_mono (call w s₀ s₁ mg mb fa o pm cd doc a vs ns G Y ho (fd_plain hd) hcd hmg hobj hints hlen hg) fun r s' hq=>?_)
 obtain⟨rfl,h2,h3,h4⟩:=hq
 exact⟨.inl ⟨.bool true,.bool true,[],rfl,fun _=>rfl,.bool true,zF9 l _,fun _=>⟨List.Pairwise.nil,fun _ hm=>(nomatch hm)⟩⟩,h2,h3,h4⟩
end Att
namespace L2
open PySem PySem.Spec PyProof.Rows
theorem zC6:∀ {vs:List Value} {ns:List Int},IntsAre vs ns->Vals (ns.map V.int) vs
 | _,_,.nil=>.nil
 | _,_,.cons n t h=>.cons ⟨t,rfl⟩ (zC6 h)
def Only(H:Hp):Prop:=∀ b,H b=none\/∃ o xs,H b=some (.frz o (.lst xs))
theorem zHv{P:Program}{w:World}{K:PySem.W.Frag}{mg mb:Str->Option Value}{CX:CXT}{k:Nat}{fa a:Addr}{fd:FuncData}{x:Str}{sp:Sp}{s₁:Shared}{vs:List Value}{ns:List Int}
  (KX:K.In s₁.heap) (hns:s₁.heap.Ns mainGlobals mg) (hb:s₁.heap.Ns builtinsNs mb) (hbb:∀ x:Str,x≠"__name__"->mb x=bootBuiltins x) (hlim:s₁.heap.NoLimit) (hg:s₁.gens=#[])
  (ha:s₁.heap.get? a=some { cls:=.type "list",data:=.seq vs.toArray }) (hi:IntsAre vs ns) (hl:ns.length<=sizeLine) (hr:Room k callerA)
  (F:∀ base:Heap,K.In base->base.Ns mainGlobals mg->FnOk P w K mg base CX k fa fd [x] sp) (hbind:∀ (s:Shared) (u:Value),BindsTo s fd ⟨[u],[]⟩ [(x,u)])
  (hsp:∀ H:Hp,Only H->SqL K H a (ns.map V.int)->sp [.ref a] H (fun v _=>v=.bl true) fun _ _ _=>False)
  (hCX:∀ H e s',CX [] H s₁ (fun _ _ _=>False) e s'->False) :
  codeAny (model P w) callerA (.call (.ref fa) ⟨[.ref a],[]⟩) (fun r s'=>r=.ok (.ret (.bool true))/\OldK s₁.heap s'.heap/\s'.os=s₁.os/\AllBare s'.gens) s₁:=by
 have rv:=zC6 hi
 have lenV:=hi.length
 have core:∀ H:Hp,Only H->SqL K H a (ns.map V.int)->HOk P w H s₁.heap->(∀ b,H b≠none->b=a)->(H a≠none->K.lookup a=none) ->
   codeAny (model P w) callerA (.call (.ref fa) ⟨[.ref a],[]⟩) (fun r s'=>r=.ok (.ret (.bool true))/\OldK s₁.heap s'.heap/\s'.os=s₁.os/\AllBare s'.gens) s₁:=by
  intro H hO hS hok hA hK
  have base_of:∀ {b:Addr} {o:Obj},s₁.heap.get? b=some o->H b=none->(hidT s₁.heap H).get? b=some o:=fun e n=>zHh e n
  have noA:∀ {b:Addr} {o:Obj} {es:Array DictEntry} {ep:Nat},s₁.heap.get? b=some o->o.data=.dict es ep->H b=none:=fun {b o es ep} e d=>by
   cases q:H b with
   | none=>rfl
   | some u =>
    have e':b=a:=hA b (by rw[q]; simp)
    subst e'
    rw[ha]at e; cases e
    have d':Data.seq vs.toArray _=Data.dict es ep:=d
    cases d'
  have nsK:∀ {b:Addr} {m:Str->Option Value},s₁.heap.Ns b m->(hidT s₁.heap H).Ns b m:=fun {b m} ⟨o,es,ep,e,d,r⟩=>⟨o,es,ep,base_of e (noA e d),d,r⟩
  have hKb:K.In (hidT s₁.heap H):=fun b o e=>base_of (KX b o e) (by
   cases q:H b with
   | none=>rfl
   | some u =>
    have e':b=a:=hA b (by rw[q]; simp)
    subst e'
    rw[hK (by rw[q]; simp)]at e; cases e)
  have hM:Mod K mg (hidT s₁.heap H):=⟨hKb,nsK hns,⟨mb,nsK hb,hbb⟩,let ⟨mc,h1,h2⟩:=hlim; ⟨mc,nsK h1,h2⟩⟩
  have e0:Env0 P w K mg (hidT s₁.heap H) callerA [] s₁ H:=⟨rfl,hM,fun b o e=>zI4 e,Nat.le_of_eq (zFr _ _),trivial,fun b hb=>absurd (show b∈([]:List Addr) from hb) (by simp),hok,.of_eq hg⟩
  refine codeAny_mono ((F _ hKb (nsK hns)).run callerA [] s₁ H ⟨[.ref a],[]⟩ [.ref a] [.ref a] _ _ hr e0 (hbind s₁ (.ref a)) (.cons rfl .nil) (hsp H hO hS)) fun r s' h=>?_
  cases r with
  | error e=>exact (hCX H e s' h).elim
  | ok fl =>
   cases fl with
   | next=>exact False.elim h
   | brk=>exact False.elim h
   | cont=>exact False.elim h
   | ret u =>
    obtain⟨v,H',os,bare,un,hok',r',q⟩:=h
    have q':v=.bl true:=q
    subst q'
    obtain rfl:u=Value.bool true:=r'
    refine⟨rfl,OldK.of_keep fun b o e=>?_,os,bare⟩
    cases q:H b with
    | none=>exact un.keep b o e q (by intro z; exact absurd (show b∈([]:List Addr) from z) (by simp)) (by simp)
    | some u =>
     rcases hO b with z | ⟨ob,xs,z⟩
     ·rw[q]at z; cases z
     ·have z2:=un.frzs b ob _ z
      obtain⟨e1,_⟩:=hok b _ z
      obtain⟨e2,_⟩:=hok' b _ z2
      rw[e]at e1; cases e1
      exact e2
 cases hk:K.lookup a with
 | some o =>
  have e:=KX a o hk
  rw[ha]at e
  cases e
  refine core (fun _=>none) (fun _=>.inl rfl) (.inr ⟨_,vs.toArray,_,hk,rfl,rfl,rfl,by rw[List.size_toArray,lenV]; exact hl,by simpa using rv⟩) (fun b u z=>by have z':(none:Option HO)=some u:=z; cases z') (fun b z=>absurd rfl z) fun z=>absurd rfl z
 | none =>
  refine core (fun b=>if b=a then some (.frz { cls:=.type "list",data:=.seq vs.toArray } (.lst (ns.map V.int))) else none) (fun b=>?_) (.inl (.inr ⟨{ cls:=.type "list",data:=.seq vs.toArray },if_pos rfl⟩)) (fun b u z=>?_) (fun b z=>?_) fun _=>hk
  ·by_cases hb:b=a
   ·exact .inr ⟨_,_,if_pos hb⟩
   ·exact .inl (if_neg hb)
  ·by_cases hb:b=a
   ·have z':=(if_pos hb).symm.trans z
    cases z'
    subst hb
    exact⟨ha,by rw[List.length_map]; exact hl,vs,_,rv,ha⟩
   ·have z':=(if_neg hb).symm.trans z
    cases z'
  ·by_cases hb:b=a
   ·exact hb
   ·exact absurd (if_neg hb) z
theorem walk_of{l:PySem.W.OpenLaw}{n k:Nat}{q:Program}{loose:List Str}{XP:(Str->Option Value)->Heap->Prop}{YP:World->Heap->Prop}{d:DefRec}{K:Params->PySem.W.Frag}{CX:World->CXT}{sp:World->Sp}{x:Str}
  (hn:l.most=some n) (hn2:n<=sizeLine) (hdf:d.params.defaults=[]) (hr:Room k callerA)
  (hY:∀ (w:World) (h:Heap),YP w h->(K w.params).In h)
  (F:∀ (w:World) (mg:Str->Option Value) (fa:Addr) (h:Heap),(K w.params).In h->h.Ns mainGlobals mg->mg d.name=some (.ref fa) ->
   ∃ fd:FuncData,(∀ (s:Shared) (u:Value),BindsTo s fd ⟨[u],[]⟩ [(x,u)]) /\
    ∀ base:Heap,(K w.params).In base->base.Ns mainGlobals mg->FnOk l.prog w (K w.params) mg base (CX w) k fa fd [x] (sp w))
  (hsp:∀ (w:World) (H:Hp) (a:Addr) (ns:List Int),ns.length<=n->Only H->SqL (K w.params) H a (ns.map V.int)->sp w [.ref a] H (fun v _=>v=.bl true) fun _ _ _=>False)
  (hCX:∀ (w:World) (H:Hp) (s:Shared) (e:Value) (s':Shared),CX w [] H s (fun _ _ _=>False) e s'->False) :
  PySem.W.WalkO q loose XP YP l.row.toRowW d [] (fun f vs=>PySem.call f vs):=by
 refine Att.attach_call hn hdf fun w s₀ s₁ mg mb fa o pm cd doc a vs ns G Y ho hd hcd hmg hobj hints hlen hg=>?_
 have KX:=hY w _ Y
 obtain⟨fd,hb,hF⟩:=F w mg fa _ KX G.T.g hmg
 exact zHv KX G.T.g G.T.b G.T.builtins G.T.nolimit hg hobj hints (Nat.le_trans hlen hn2) hr hF hb (fun H hO hS=>hsp w H a ns hlen hO hS) fun H e s'=>hCX w H s₁ e s'
def defArgs(s:Stmt):Arguments:=match s with
 | .FunctionDef _ a _ _ _ _ _ _ _ _=>a
 | _=>{ posonlyargs:=[],args:=[],vararg:=none,kwonlyargs:=[],kw_defaults:=[],kwarg:=none,defaults:=[] }
def defBody(s:Stmt):List Stmt:=match s with
 | .FunctionDef _ _ b _ _ _ _ _ _ _=>b
 | _=>[]
def defScope(s:Stmt):Scope:=match s with
 | .FunctionDef _ _ _ _ _ _ sc _ _ _=>sc
 | _=>{ kind:=.function,names:=[],isGenerator:=false,isCoroutine:=false }
abbrev CX0:CXT:=fun _ _ _ _ _ _=>False
abbrev E0:XK:=fun _ _ _=>False
theorem pass0{X:Cx}:Passes CX0 X E0:=fun _ _ _ _ _ _ _ h=>h.elim
structure Fun(K:PySem.W.Frag)(x qual:Str)(st:Stmt)(f:Addr)(fd:FuncData):Prop where
 ex:∃ (oc:Value) (od:Option Addr) (kV doc pm:Value) (an:Option Addr) (cdv ct:Value) (osl:Array (Option Value)),
  fd=PySem.W.fnOf x qual (defArgs st) (defBody st) (defScope st) .none kV doc pm an cdv ct/\K.lookup f=some ⟨oc,od,.func fd,osl⟩/\PySem.W.codeIn K cdv qual=true
 kp:PySem.W.keepIn K (.ref f)=true
section
variable {P:Program}{w:World}{K:PySem.W.Frag}{mg:Str->Option Value}{base:Heap}
theorem Fun.ok{x qual:Str}{st:Stmt}{f:Addr}{fd:FuncData}{N ps:List Str}{k:Nat}{sp:Sp}(F:Fun K x qual st f fd)(S:FnScope N ps (defScope st))(len:∀ vs H Q E,sp vs H Q E->vs.length=ps.length)
  (hbody:∀ (cdv:Value) (A:Around) (outer:List Env) (s:Shared) (H:Hp) (vs:List V) (Q:VK) (E:XK),Room k (A.deeper (envOfC qual (defScope st) s.heap.objs.size f cdv))->sp vs H Q E ->
   ∃ t,PSs (cxOf CX0 P w K mg base N qual (defScope st) f cdv A outer s H E).nox (defBody st) t/\t { nx:=fun _ H'=>Q .non H',rt:=Q } (start N vs) H):FnOk P w K mg base CX0 (k+1) f fd ps sp:=by
 obtain⟨oc,od,kV,doc,pm,an,cdv,ct,osl,rfl,lk,hcd⟩:=F.ex
 refine zHw lk hcd S len fun A outer s H vs Q E hr hsp=>?_
 obtain⟨t,h,q⟩:=hbody cdv A outer s H vs Q E hr hsp
 exact⟨t,h.nox,q⟩
theorem Fun.binds{x qual:Str}{st:Stmt}{f:Addr}{fd:FuncData}{ps:List Str}(F:Fun K x qual st f fd)
  (h:∀ (kV doc pm:Value) (an:Option Addr) (cdv ct:Value) (us:List Value),us.length=ps.length->bindArgs (PySem.W.fnOf x qual (defArgs st) (defBody st) (defScope st) .none kV doc pm an cdv ct) ⟨us,[]⟩=pure (ps.zip us)):Binds K fd ps []:=by
 obtain⟨oc,od,kV,doc,pm,an,cdv,ct,osl,rfl,lk,hcd⟩:=F.ex
 exact .all (h kV doc pm an cdv ct)
theorem zD0{x qual:Str}{st:Stmt}{f:Addr}{oc:Value}{od an:Option Addr}{osl:Array (Option Value)}{kV doc pm cdv ct:Value}(l:K.lookup f=some ⟨oc,od,.func (PySem.W.fnOf x qual (defArgs st) (defBody st) (defScope st) .none kV doc pm an cdv ct),osl⟩)
  (c:PySem.W.codeIn K cdv qual=true) (k:PySem.W.keepIn K (.ref f)=true):Fun K x qual st f (PySem.W.fnOf x qual (defArgs st) (defBody st) (defScope st) .none kV doc pm an cdv ct):=⟨⟨oc,od,kV,doc,pm,an,cdv,ct,osl,rfl,l,c⟩,k⟩
end
def Same(H H':Hp):Prop:=∀ b o,H b=some o->H' b=some o
theorem Same.refl(H:Hp):Same H H:=fun _ _ h=>h
end L2
set_option maxHeartbeats 4000000
namespace L2
open PySem PySem.Spec PyProof.Rows
def cloOf(cells:List (Str×Addr)):List (Str×NameKind)->List (Str×Addr)->List (Str×Addr)
 | [],acc=>acc
 | (n,k)::r,acc=>if k == .free then cloOf cells r ((n,(cells.lookup n).getD 0)::acc) else cloOf cells r acc
theorem zBI{scope:Scope}{env:Env}(h:∀ x∈scope.names,x.2=.free->∃ c,env.cells.lookup x.1=some c):closureFor scope env=pure (cloOf env.cells scope.names []):=by
 have go:∀ (names:List (Str×NameKind)) (acc:List (Str×Addr)),(∀ x∈names,x.2=.free->∃ c,env.cells.lookup x.1=some c) ->
   (forIn names acc fun (x:Str×NameKind) (cs:List (Str×Addr))=>if (x.2 == NameKind.free)=true then (do let c ← cellOf env x.1; pure (ForInStep.yield ((x.1,c)::cs))) else (pure (ForInStep.yield cs):Sem _))=(pure (cloOf env.cells names acc):Sem _):=by
  intro names
  induction names with
  | nil=>intro acc _; rfl
  | cons x r ih =>
   intro acc hx
   obtain⟨n,k⟩:=x
   rw[List.forIn_cons]
   have hr:=fun acc=>ih acc fun y hy=>hx y (List.mem_cons_of_mem _ hy)
   unfold cloOf
   by_cases hk:(k == NameKind.free)=true
   ·obtain⟨c,hc⟩:=hx (n,k) List.mem_cons_self (by simpa using hk)
    have hc':env.cells.lookup n=some c:=hc
    have e:cellOf env n=pure c:=by unfold cellOf; rw[hc']
    simp only[hk,if_true,e,hc',Option.getD_some,pure_bind]
    exact hr _
   ·simp only[hk,if_false,pure_bind]
    exact hr _
 unfold closureFor
 have:=go scope.names [] h
 simp only[bind_pure]
 exact this
theorem zAV{cells:List (Str×Addr)}{x:Str}{c:Addr}:∀ (names:List (Str×NameKind)) (acc:List (Str×Addr)),(cloOf cells names acc).lookup x=some c->((x,NameKind.free)∈names/\c=(cells.lookup x).getD 0)\/acc.lookup x=some c
 | [],acc,h=>.inr h
 | (n,k)::r,acc,h=>by
  unfold cloOf at h
  by_cases hk:(k == NameKind.free)=true
  ·rw[if_pos hk]at h
   have hk':k=.free:=by simpa using hk
   subst hk'
   rcases zAV r _ h with ⟨a,b⟩ | h'
   ·exact .inl ⟨List.mem_cons_of_mem _ a,b⟩
   ·clear h
    rw[List.lookup_cons]at h'
    cases e:x == n with
    | true =>
         rw[e]at h'; have q:x=n:=by simpa using e
         subst q
         have q2:(cells.lookup x).getD 0=c:=Option.some.inj h'
         exact .inl ⟨List.mem_cons_self,q2.symm⟩
    | false=>rw[e]at h'; exact .inr h'
  ·rw[if_neg hk]at h
   rcases zAV r _ h with ⟨a,b⟩ | h
   ·exact .inl ⟨List.mem_cons_of_mem _ a,b⟩
   ·exact .inr h
theorem zA7{cells:List (Str×Addr)}{x:Str}:∀ (names:List (Str×NameKind)) (acc:List (Str×Addr)),((x,NameKind.free)∈names\/(acc.lookup x).isSome=true)->((cloOf cells names acc).lookup x).isSome=true
 | [],acc,h=>h.elim (fun z=>nomatch z) id
 | (n,k)::r,acc,h=>by
  unfold cloOf
  by_cases hk:(k == NameKind.free)=true
  ·rw[if_pos hk]
   refine zA7 r _ ?_
   by_cases e:x=n
   ·subst e; exact .inr (by simp)
   ·rcases h with h | h
    ·rcases List.mem_cons.mp h with h | h
     ·cases h; exact absurd rfl e
     ·exact .inl h
    ·refine .inr ?_
     rw[List.lookup_cons]
     have:(x == n)=false:=by simpa using e
     rw[this]; exact h
  ·rw[if_neg hk]
   refine zA7 r _ ?_
   rcases h with h | h
   ·rcases List.mem_cons.mp h with h | h
    ·cases h; exact absurd rfl hk
    ·exact .inl h
   ·exact .inr h
theorem zAc{x:Str}{c:Addr}:∀ (names:List (Str×NameKind)) (n:Nat) (acc:List (Str×Addr)),(cellsFrom n names acc).lookup x=some c->(n<=c/\(x,NameKind.cell)∈names)\/acc.lookup x=some c
 | [],_,acc,h=>.inr h
 | (y,k)::r,n,acc,h=>by
  unfold cellsFrom at h
  by_cases hk:(k == NameKind.cell)=true
  ·rw[if_pos hk]at h
   have hk':k=.cell:=by simpa using hk
   subst hk'
   rcases zAc r _ _ h with ⟨a,b⟩ | h'
   ·exact .inl ⟨by omega,List.mem_cons_of_mem _ b⟩
   ·clear h
    rw[List.lookup_cons]at h'
    cases e:x == y with
    | true =>
         rw[e]at h'; have q:x=y:=by simpa using e
         have q2:n=c:=Option.some.inj h'
         subst q q2; exact .inl ⟨Nat.le_refl _,List.mem_cons_self⟩
    | false=>rw[e]at h'; exact .inr h'
  ·rw[if_neg hk]at h
   rcases zAc r _ _ h with ⟨a,b⟩ | h
   ·exact .inl ⟨a,List.mem_cons_of_mem _ b⟩
   ·exact .inr h
theorem zDr{x:Str}{c:Addr}:∀ (names:List (Str×NameKind)) (n:Nat) (acc:List (Str×Addr)),(x,c)∈cellsFrom n names acc->n<=c\/(x,c)∈acc
 | [],_,acc,h=>.inr h
 | (y,k)::r,n,acc,h=>by
  unfold cellsFrom at h
  by_cases hk:(k == NameKind.cell)=true
  ·rw[if_pos hk]at h
   rcases zDr r _ _ h with a | h
   ·exact .inl (by omega)
   ·rcases List.mem_cons.mp h with h | h
    ·cases h; exact .inl (Nat.le_refl _)
    ·exact .inr h
  ·rw[if_neg hk]at h
   exact zDr r _ _ h
theorem zD5{x y:Str}{c:Addr}:∀ (names:List (Str×NameKind)) (n:Nat) (acc:List (Str×Addr)),(∀ p∈acc,p.2 < n)->n<=c->(x,c)∈cellsFrom n names acc->(y,c)∈cellsFrom n names acc->x=y
 | [],n,acc,ha,hc,h1,_=>by have q:c < n:=ha _ h1; exact absurd (Nat.lt_of_lt_of_le q hc) (Nat.lt_irrefl _)
 | (z,k)::r,n,acc,ha,hc,h1,h2=>by
  unfold cellsFrom at h1 h2
  by_cases hk:(k == NameKind.cell)=true
  ·rw[if_pos hk]at h1 h2
   have ha':∀ p∈(z,n)::acc,p.2 < n+1:=fun p hp=>by
    rcases List.mem_cons.mp hp with h | h
    ·subst h; exact Nat.lt_succ_self _
    ·exact Nat.lt_succ_of_lt (ha p h)
   by_cases hcn:n+1<=c
   ·exact zD5 r _ _ ha' hcn h1 h2
   ·have hcn':c=n:=Nat.le_antisymm (Nat.not_lt.mp hcn) hc
    subst hcn'
    have g:∀ w,(w,c)∈cellsFrom (c+1) r ((z,c)::acc)->w=z:=fun w hw=>by
     rcases zDr r _ _ hw with a | a
     ·exact absurd a (Nat.not_succ_le_self _)
     ·rcases List.mem_cons.mp a with a | a
      ·cases a; rfl
      ·have:=ha _ a; exact absurd this (Nat.lt_irrefl _)
    rw[g x h1,g y h2]
  ·rw[if_neg hk]at h1 h2
   exact zD5 r _ _ ha hc h1 h2
theorem zCa{x:Str}{c:Addr}:∀ (names:List (Str×NameKind)) (h:Heap) (acc:List (Str×Addr)),(∀ p∈acc,∃ v,h.IsCell p.2 v)->(x,c)∈cellsFrom h.objs.size names acc->∃ v,(pushCells h names).IsCell c v
 | [],_,acc,ha,hm=>ha _ hm
 | (z,k)::r,h,acc,ha,hm=>by
  unfold cellsFrom at hm
  unfold pushCells
  by_cases hk:(k == NameKind.cell)=true
  ·rw[if_pos hk]at hm ⊢
   refine zCa r (h.push { cls:=.type "cell",data:=.cell none }) ((z,h.objs.size)::acc) (fun p hp=>?_) (by rw[Heap.size_push]; exact hm)
   rcases List.mem_cons.mp hp with e | e
   ·subst e; exact⟨none,_,Heap.get?_push_size _ rfl,rfl⟩
   ·obtain⟨v,q⟩:=ha p e
    exact⟨v,q.keeps fun b o e=>Heap.get?_push_of_some _ e⟩
  ·rw[if_neg hk]at hm ⊢
   exact zCa r h acc ha hm
theorem zBo{M:Model}{A:Around}{E:Value->Shared->Prop}{s:Shared}{scope:Scope}{globals:Addr}{cl:List (Str×Addr)}{qual:Str}{env:Env}{Q:Env->Shared->Prop}
  (hQ:Q (newEnv scope s.heap.objs.size globals (cellsFrom (s.heap.objs.size+1) scope.names cl) qual none .none (some env) builtinsNs) { s with heap:=pushCells (s.heap.push { cls:=.type "dict",data:=.dict #[] }) scope.names }) :
  wpAny M A (newFunctionEnv scope globals cl [] qual none .none (some env)) Q E s:=by
 simp only[newFunctionEnv,Option.isSome_some,if_true]
 refine wpAny_bind (wpAny_alloc ?_)
 refine wpAny_bind (wpAny_layCells _ (fun name kind cells=>by cases hkc:kind == NameKind.cell <;> simp[hkc]) _ _ _ _ ?_)
 rw[show ({ s with heap:=s.heap.push { cls:=.type "dict",data:=.dict #[] } }:Shared).heap.objs.size=s.heap.objs.size+1 from Heap.size_push ..]
 refine wpAny_bind ?_
 rw[List.forIn_nil]
 exact wpAny_pure (wpAny_pure hQ)
def compOk(N N':List Str)(ix:List (Option Nat))(outer names:List (Str×NameKind)):Bool :=
 decide (N'.length=ix.length) && ((N'.zip ix).all fun p=>match p.2 with | none=>true | some j=>decide (N[j]?=some p.1) && names.contains (p.1,NameKind.free)) &&
 (names.all fun p=>(p.2 != .free || outer.lookup p.1 == some .cell || outer.lookup p.1 == some .free) && (p.2 != .local || names.lookup p.1 == some .local) && (p.2 != .cell || names.lookup p.1 == some .cell) && (p.2 != .free || names.lookup p.1 == some .free))
def frm(ix:List (Option Nat))(σ:St):St:=ix.map fun o=>o.bind fun j=>(σ[j]?).join
def cxC(X:Cx)(N:List Str)(scope:Scope)(C:Addr)(cs:List (Str×Addr))(s:Shared)(H:Hp)(ex:List Addr):Cx where
 prog:=X.prog
 w:=X.w
 K:=X.K
 mg:=X.mg
 base:=X.base
 A:=X.A
 N:=N
 s₀:=s
 H₀:=H
 env:=compEnvC scope cs C X.env
 outer:=X.stack
 stack:=X.stack
 ex:=ex
 fn:=fun x=>scope.names.lookup x == some .cell
 calm:=X.calm
 pn:=[]
 xe:=fun _ _=>False
structure CompOk(X:Cx)(N':List Str)(ix:List (Option Nat))(scope:Scope):Prop where
 kind:scope.kind=.function
 ok:compOk X.N N' ix X.env.scope.names scope.names=true
section
variable {X:Cx}{N':List Str}{ix:List (Option Nat)}{scope:Scope}
theorem CompOk.len(S:CompOk X N' ix scope):N'.length=ix.length:=by
 have h:=S.ok; unfold compOk at h; simp only[Bool.and_eq_true,decide_eq_true_eq]at h; exact h.1.1
theorem CompOk.name(S:CompOk X N' ix scope){p:Str×NameKind}(hp:p∈scope.names) :
  (p.2=.free->X.env.scope.names.lookup p.1=some .cell\/X.env.scope.names.lookup p.1=some .free)/\(p.2=.local->scope.names.lookup p.1=some .local)/\(p.2=.cell->scope.names.lookup p.1=some .cell)/\(p.2=.free->scope.names.lookup p.1=some .free):=by
 have h:=S.ok; unfold compOk at h; simp only[Bool.and_eq_true]at h
 have q:=List.all_eq_true.mp h.2 p hp
 simp only[Bool.and_eq_true,Bool.or_eq_true,bne_iff_ne,beq_iff_eq,ne_eq]at q
 obtain⟨⟨⟨a,b⟩,c⟩,d⟩:=q
 refine⟨fun e=>?_,fun e=>?_,fun e=>?_,fun e=>?_⟩
 ·rcases a with (a | a) | a
  ·exact absurd e a
  ·exact .inl a
  ·exact .inr a
 ·exact b.resolve_left fun z=>z e
 ·exact c.resolve_left fun z=>z e
 ·exact d.resolve_left fun z=>z e
theorem CompOk.at(S:CompOk X N' ix scope){i j:Nat}{x:Str}(h1:N'[i]?=some x)(h2:ix[i]?=some (some j)):X.N[j]?=some x/\(x,NameKind.free)∈scope.names:=by
 have h:=S.ok; unfold compOk at h; simp only[Bool.and_eq_true]at h
 have hz:(x,some j)∈N'.zip ix:=by
  have:(N'.zip ix)[i]?=some (x,some j):=by rw[List.getElem?_zip_eq_some]; exact⟨h1,h2⟩
  exact List.mem_of_getElem? this
 have q:=List.all_eq_true.mp h.1.2 _ hz
 simp only[Bool.and_eq_true,decide_eq_true_eq,List.contains_iff_mem]at q
 exact q
theorem zJC{σ:St}{i:Nat}{v:V}(h:(frm ix σ)[i]?=some (some v)):∃ j,ix[i]?=some (some j)/\σ[j]?=some (some v):=by
 unfold frm at h
 rw[List.getElem?_map]at h
 cases e:ix[i]? with
 | none=>rw[e]at h; cases h
 | some o =>
  rw[e]at h
  cases o with
  | none=>cases h
  | some j =>
   have h':(σ[j]?).join=some v:=Option.some.inj h
   refine⟨j,rfl,?_⟩
   cases e2:σ[j]? with
   | none=>rw[e2]at h'; cases h'
   | some w=>rw[e2]at h'; rw[show w=some v from h']
theorem zA0{env:Env}:∀ (names:List (Str×NameKind)) (x:Str),
  (names.map fun (n,k)=>if (k == NameKind.free && env.scope.kind == .function && env.kindOf n == some .cell) then (n,NameKind.cell) else (n,k)).lookup x =
   match names.lookup x with
   | some .free=>if (env.scope.kind == .function && env.kindOf x == some .cell) then some NameKind.cell else some .free
   | o=>o
 | [],_=>rfl
 | (n,k)::r,x=>by
  have ih:=zA0 (env:=env) r x
  rw[List.map_cons]
  show List.lookup x ((if (k == NameKind.free && env.scope.kind == .function && env.kindOf n == some .cell)=true then (n,NameKind.cell) else (n,k))::_)=_
  cases hx:x == n with
  | true =>
   have e:x=n:=by simpa using hx
   subst e
   simp only[List.lookup_cons,beq_self_eq_true]
   cases k <;> by_cases hc:(env.scope.kind == .function && env.kindOf x == some .cell)=true <;> simp[List.lookup_cons,hc] <;> simp_all
  | false =>
   simp only[List.lookup_cons,hx]
   rw[← ih]
   split <;> simp only[List.lookup_cons,hx]
theorem kindC{cs:List (Str×Addr)}{C:Addr}(x:Str):(compEnvC scope cs C X.env).kindOf x =
   match scope.names.lookup x with
   | some .free=>if (X.env.scope.kind == .function && X.env.kindOf x == some .cell) then some NameKind.cell else some .free
   | o=>o:=zA0 scope.names x
end
theorem zEI{X:Cx}{N':List Str}{ix:List (Option Nat)}{scope:Scope}(S:CompOk X N' ix scope){pins:List (Addr×Obj)}{σ:St}{H:Hp}{s:Shared}{fp:List Addr}{D:Addr}{o:Obj}
  (I:Inv X pins σ H s) (hf:∀ b∈fp,FpOk X pins H b) (ho:∀ b∈fp,∃ o,s.heap.get? b=some o) (hc:X.calm=true) {h3:Heap} {C:Addr} (hk3:∀ b u,s.heap.get? b=some u->h3.get? b=some u) (hC:C=h3.objs.size) (hs3:s.heap.objs.size<=h3.objs.size) {h4:Heap}
  (h4e:h4=pushCells (h3.push { cls:=.type "dict",data:=.dict #[] }) scope.names) {t4:Nat} :
  Inv (cxC X N' scope C (cellsFrom (C+1) scope.names (cloOf X.env.cells scope.names [])) s H fp) [] (frm ix σ) H { s with heap:=h4,toks:=t4 }:=by
 have hsz:s.heap.objs.size<=C:=by rw[hC]; exact hs3
 have hk4:∀ b u,h3.get? b=some u->h4.get? b=some u:=fun b u e=>by rw[h4e]; exact pushCells_keeps _ _ b u (Heap.get?_push_of_some _ e)
 have hk:∀ b u,s.heap.get? b=some u->h4.get? b=some u:=fun b u e=>hk4 b u (hk3 b u e)
 have hpC:(h3.push { cls:=.type "dict",data:=.dict #[] }).objs.size=C+1:=by rw[hC,Heap.size_push]
 have clo:∀ x c,(cloOf X.env.cells scope.names []).lookup x=some c->X.env.cells.lookup x=some c:=fun x c h=>by
  rcases zAV scope.names [] h with ⟨hm,e⟩ | h
  ·obtain⟨c',hc'⟩:=I.ok.has x ((S.name hm).1 rfl)
   rw[hc']at e ⊢
   rw[e]; rfl
  ·cases h
 have cloM:∀ p∈cloOf X.env.cells scope.names [],∃ x,(x,NameKind.free)∈scope.names/\p.1=x/\X.env.cells.lookup x=some p.2:=by
  have go:∀ (names:List (Str×NameKind)) (acc:List (Str×Addr)),(∀ q∈names,q∈scope.names)->(∀ p∈acc,∃ x,(x,NameKind.free)∈scope.names/\p.1=x/\X.env.cells.lookup x=some p.2) ->
    ∀ p∈cloOf X.env.cells names acc,∃ x,(x,NameKind.free)∈scope.names/\p.1=x/\X.env.cells.lookup x=some p.2:=by
   intro names
   induction names with
   | nil=>intro acc _ ha; exact ha
   | cons q r ih =>
    intro acc hn ha
    obtain⟨n,k⟩:=q
    unfold cloOf
    by_cases hkf:(k == NameKind.free)=true
    ·rw[if_pos hkf]
     have e:k=.free:=by simpa using hkf
     subst e
     refine ih _ (fun q hq=>hn q (List.mem_cons_of_mem _ hq)) fun p hp=>?_
     rcases List.mem_cons.mp hp with e | hp
     ·subst e
      have hm:=hn (n,.free) List.mem_cons_self
      obtain⟨c',hc'⟩:=I.ok.has n ((S.name hm).1 rfl)
      refine⟨n,hm,rfl,?_⟩
      show List.lookup n X.env.cells=some ((X.env.cells.lookup n).getD 0)
      rw[hc']; rfl
     ·exact ha p hp
    ·rw[if_neg hkf]
     exact ih _ (fun q hq=>hn q (List.mem_cons_of_mem _ hq)) ha
  exact go scope.names [] (fun _ h=>h) fun p hp=>nomatch hp
 have cellLt:∀ x c,X.env.cells.lookup x=some c->c < s.heap.objs.size:=fun x c h=>by
  obtain⟨v,q⟩:=I.cell x c h; exact q.lt
 have split:∀ x c,(cellsFrom (C+1) scope.names (cloOf X.env.cells scope.names [])).lookup x=some c->(C+1<=c/\(x,NameKind.cell)∈scope.names)\/X.env.cells.lookup x=some c:=fun x c h=>by
  rcases zAc scope.names _ _ h with h | h
  ·exact .inl h
  ·exact .inr (clo x c h)
 have cells4:∀ x c,(cellsFrom (C+1) scope.names (cloOf X.env.cells scope.names [])).lookup x=some c->∃ v,h4.IsCell c v:=fun x c h=>by
  rw[h4e]
  refine zCa (x:=x) scope.names _ (cloOf X.env.cells scope.names []) (fun p hp=>?_) (by rw[hpC]; exact PySem.mem_of_lookup h)
  obtain⟨y,_,_,e⟩:=cloM p hp
  obtain⟨v,q⟩:=I.cell y p.2 e
  exact⟨v,q.keeps fun b u e=>Heap.get?_push_of_some _ (hk3 b u e)⟩
 have bLt:∀ b∈fp,b < s.heap.objs.size:=fun b hb=>by obtain⟨u,e⟩:=ho b hb; exact Heap.lt_size e
 have nfree:∀ b,s.heap.objs.size<=b->H b=none:=fun b hb=>I.hok.fresh hb
 have HC:C < h4.objs.size:=by
  have:h4.get? C=some { cls:=.type "dict",data:=.dict #[] }:=by
   rw[h4e]; refine pushCells_keeps _ _ _ _ ?_
   rw[hC]; exact Heap.get?_push_size _ rfl
  exact Heap.lt_size this
 refine⟨⟨I.ok.mod,?_,I.ok.glob,I.ok.blt,hsz,fun x y c h1 h2=>?_,fun x hx=>?_,fun x c hx h=>?_,fun h=>I.ok.hd hc,I.ok.frames,.inl rfl,fun b hb=>⟨?_,fun x c h=>?_⟩,fun b u e=>I.bs b u e,Nat.le_trans I.ok.bsz I.sz,fun b u e hb=>?_,fun b hb hz=>?_,I.stack,I.stkFree⟩,
  rfl,I.bare,Un.kept hk,⟨fun _=>none,?_,fun i x v h1 h2 h3=>?_⟩,cells4,?_,fun x c h=>?_,fun p hp=>absurd (show p∈([]:List (Addr×Obj)) from hp) (by simp),I.hok.kept hk,?_⟩
 ·exact S.kind
 ·-- injective
  have m1:=PySem.mem_of_lookup h1
  have m2:=PySem.mem_of_lookup h2
  rcases split x c h1 with ⟨a,_⟩ | a
  ·exact zD5 scope.names (C+1) _ (fun p hp=>by obtain⟨y,_,_,e⟩:=cloM p hp; exact Nat.lt_succ_of_lt (Nat.lt_of_lt_of_le (cellLt y _ e) hsz)) a m1 m2
  ·rcases split y c h2 with ⟨b,_⟩ | b
   ·exact absurd (Nat.lt_of_lt_of_le (cellLt x c a) (Nat.le_trans hsz (Nat.le_of_succ_le b))) (Nat.lt_irrefl _)
   ·exact I.ok.inj x y c a b
 ·-- has
  have hx':(compEnvC scope (cellsFrom (C+1) scope.names (cloOf X.env.cells scope.names [])) C X.env).kindOf x=some .cell\/(compEnvC scope (cellsFrom (C+1) scope.names (cloOf X.env.cells scope.names [])) C X.env).kindOf x=some .free:=hx
  rw[kindC]at hx'
  have key:scope.names.lookup x=some .cell\/scope.names.lookup x=some .free:=by
   cases e:scope.names.lookup x with
   | none=>rw[e]at hx'; rcases hx' with z | z <;> cases z
   | some k =>
    rw[e]at hx'
    cases k <;> first | exact .inl rfl | exact .inr rfl | (rcases hx' with z | z <;> cases z)
  refine Option.isSome_iff_exists.mp (PySem.W.cellsFrom_some scope.names _ _ ?_)
  rcases key with k | k
  ·exact .inl k
  ·exact .inr (zA7 scope.names [] (.inl (PySem.mem_of_lookup k)))
 ·-- own cells are new
  have hx':(scope.names.lookup x == some NameKind.cell)=true:=hx
  have hx'':scope.names.lookup x=some .cell:=by simpa using hx'
  rcases zAc scope.names _ _ h with ⟨a,_⟩ | a
  ·exact Nat.le_trans hsz (Nat.le_of_succ_le a)
  ·rcases zAV scope.names [] a with ⟨hm,_⟩ | z
   ·have:=(S.name hm).2.2.2 rfl
    rw[hx'']at this; cases this
   ·cases z
 ·exact Nat.ne_of_lt (Nat.lt_of_lt_of_le (bLt b hb) hsz)
 ·rcases split x c h with ⟨a,_⟩ | a
  ·exact Nat.ne_of_gt (Nat.lt_of_lt_of_le (bLt b hb) (Nat.le_trans hsz (Nat.le_of_succ_le a)))
  ·exact (hf b hb).2.2.2.2.1 x c a
 ·rcases (hf b hb).2.2.2.1 with z | z
  ·exact I.ok.noex b u e z
  ·exact absurd (Nat.lt_of_lt_of_le (Heap.lt_size e) (Nat.le_trans I.ok.bsz z)) (Nat.lt_irrefl _)
 ·rcases List.mem_cons.mp (I.stkSub b hz) with e | e
  ·exact (hf b hb).2.1 e
  ·exact (hf b hb).2.2.1 e
 ·-- the block's names
  rw[h4e]
  show (pushCells (h3.push { cls:=.type "dict",data:=.dict #[] }) scope.names).Ns C (fun _=>none)
  rw[hC]
  exact (Heap.Ns.new h3 (.type "dict")).keeps (pushCells_keeps _ _)
 ·obtain⟨j,e1,e2⟩:=zJC h2
  obtain⟨hn,hm⟩:=S.at h1 e1
  have hkx:=(S.name hm).2.2.2 rfl
  have hox:=(S.name hm).1 rfl
  obtain⟨m,hns,hl⟩:=I.loc
  have vis:Vis X.env.scope x:=by rcases hox with z | z; exact .inr (.inl z); exact .inr (.inr z)
  obtain⟨u,r,l⟩:=hl j x v hn e2 vis
  refine⟨u,r,.inr ⟨?_,?_⟩⟩
  ·show (compEnvC scope _ C X.env).kindOf x=some .cell\/(compEnvC scope _ C X.env).kindOf x=some .free
   rw[kindC,hkx]
   dsimp only
   split
   ·exact .inl rfl
   ·exact .inr rfl
  ·rcases l with ⟨k,_⟩ | ⟨_,c,hc',hcell⟩
   ·have k':X.env.scope.names.lookup x=some .local:=k
    rcases hox with z | z <;> rw[z]at k' <;> cases k'
   ·have hs:((cellsFrom (C+1) scope.names (cloOf X.env.cells scope.names [])).lookup x).isSome=true:=PySem.W.cellsFrom_some scope.names _ _ (.inr (zA7 scope.names [] (.inl hm)))
    obtain⟨c',e'⟩:=Option.isSome_iff_exists.mp hs
    have:c'=c:=by
     rcases split x c' e' with ⟨_,q⟩ | q
     ·have:=(S.name q).2.2.1 rfl
      rw[show scope.names.lookup x=some .free from hkx]at this; cases this
     ·rw[hc']at q; exact (Option.some.inj q).symm
    subst this
    exact⟨c',e',hcell.keeps hk⟩
 ·exact nfree C hsz
 ·rcases split x c h with ⟨a,_⟩ | a
  ·exact nfree c (Nat.le_trans hsz (Nat.le_of_succ_le a))
  ·exact I.freeC x c a
 ·show (frm ix σ).length=N'.length
  unfold frm; rw[List.length_map,S.len]
theorem zDo{prog:Program}{w:World}{A:Around}{R:Result->Shared->Prop}{s:Shared}{elt target iter:Expr}{ifs:List Expr}{scope:Scope}{pos:Pos}{it acc:Value}{env:Env}(I:Nat->Shared->Prop)
  (turn:∀ n s,I n s->wpAny (model prog w) A (pyNext it) (fun r s₁=>match r with
   | none=>R (.ok .next) s₁
   | some v=>wpAny (model prog w) A (letOwnedTupleGo target it v) (fun _ s₁'=>wpAny (model prog w) A (assign target env v) (fun _ s₂ =>
     wpAny (model prog w) A (forIn ifs true fun c r=>if r=true then do let ok ← isTrue c env (eval c env); pure (ForInStep.yield ok) else pure (ForInStep.yield r)) (fun ok s₃ =>
      if ok=true then wpAny (model prog w) A (eval elt env) (fun x s₄ =>
       wpAny (model prog w) A (call (.builtin "list.append") [acc,x]) (fun _ s₅=>∃ m,m < n/\I m s₅) (fun _ _=>False) s₄) (fun _ _=>False) s₃
      else ∃ m,m < n/\I m s₃) (fun _ _=>False) s₂) (fun _ _=>False) s₁') (fun _ _=>False) s₁) (fun _ _=>False) s)
  (n:Nat) (h:I n s) :
  codeAny (model prog w) A (.compLoop (.ListComp elt [⟨target,iter,ifs,0⟩] scope pos) 0 it acc env) R s:=by
 refine codeAny_loop rfl I (fun n s hI=>?_) n h
 show wpAny _ A ((compTurn (.ListComp elt [⟨target,iter,ifs,0⟩] scope pos) 0 it acc env).onRaise (fun x=>do noteFrame x env; theTreesLotGoes x)) _ _ s
 refine wpAny_noted ?_
 rw[compTurn_list]
 refine wpAny_bind (wpAny_standAt (wpAny_bind (wpAny_mono (turn n s hI) (fun r s₁ h₁=>?_) fun _ _ h'=>h'.elim)))
 cases r with
 | none=>exact wpAny_pure h₁
 | some v =>
  refine wpAny_bind (wpAny_mono h₁ (fun _ s₁' h₁'=>?_) fun _ _ h'=>h'.elim)
  refine wpAny_bind (wpAny_mono h₁' (fun _ s₂ h₂=>wpAny_bind (wpAny_mono h₂ (fun ok s₃ h₃=>?_) fun _ _ h'=>h'.elim)) fun _ _ h'=>h'.elim)
  cases ok with
  | false=>exact wpAny_pure ⟨rfl,h₃⟩
  | true =>
   exact wpAny_bind (wpAny_bind (wpAny_mono h₃ (fun x s₄ h₄=>wpAny_bind (wpAny_mono h₄ (fun _ s₅ h₅=>wpAny_pure (wpAny_pure ⟨rfl,h₅⟩)) fun _ _ h'=>h'.elim)) fun _ _ h'=>h'.elim))
def PTs(X:Cx)(ifs:List Expr)(t:TT):Prop :=
 ∀ (pins:List (Addr×Obj)) (s:Shared) (σ:St) (H:Hp) (Q:Bool->Hp->Prop),Inv X pins σ H s->t σ H Q ->
  wpAny (model X.prog X.w) X.A (forIn ifs true fun c r=>if r=true then do let ok ← isTrue c X.env (eval c X.env); pure (ForInStep.yield ok) else pure (ForInStep.yield r)) (TP X pins σ Q) X.xe s
def tYes:TT:=fun _ H Q=>Q true H
theorem zIV{X:Cx}:PTs X [] tYes:=fun _ _ _ H _ I h=>wpAny_tests_nil ⟨H,I,h⟩
theorem zIP{X:Cx}{c:Expr}{t:TT}(h:PT X c t):PTs X [c] t:=fun pins s σ H Q I hw=>wpAny_tests_one (h pins s σ H Q I hw)
def CompW(J:It)(ix:List (Option Nat))(g:TG)(tc:TT)(te:TE)(σ:St)(H1:Hp)(Q:VK):Prop:=∃ W:Nat->Nat->List V->St->Hp->Prop,(∃ m,W 0 m [] (frm ix σ) H1) /\
 ∀ i m ys σ' H',W i m ys σ' H' ->
  (J.stop i H'/\ys.length<=sizeLine/\∀ D,H' D=none->Q (.ref D) (upd H' D (.lst ys))) \/
  (J.go i H'/\ys.length < sizeLine/\∃ N:List V->St->Hp->Prop,(∀ ys' σ2 H2,N ys' σ2 H2->∃ m',m' < m/\W (i+1) m' ys' σ2 H2) /\
   ∀ x H2,J.yld i H' x H2->g x σ' H2 fun σ2 H3=>tc σ2 H3 fun b H4=>if b=true then te σ2 H4 fun v H5=>N (ys++[v]) σ2 H5 else N ys σ2 H4)
def tComp(wi:TI)(ix:List (Option Nat))(g:TG)(tc:TT)(te:TE):TE:=fun σ H Q=>wi σ H fun J H1=>CompW J ix g tc te σ H1 Q
theorem HOk.adopt{P:Program}{w:World}{H:Hp}{h:Heap}{a:Addr}{o:HO}(x:HOk P w H h)(hn:H a=none)(new:ObjOk P w (upd H a o) h a o):HOk P w (upd H a o) h:=fun b u e=>by
 by_cases hb:b=a
 ·subst hb; rw[zAF]at e; cases e; exact new
 ·rw[zAB hb]at e
  exact (x b u e).stay (fun c v _ q=>q) (fun c q=>by rw[zAB (zAC q hn)]; exact q) fun c xs q=>by rw[zAB (zAC q hn)]; exact q
section
variable {X:Cx}{N':List Str}{ix:List (Option Nat)}{scope:Scope}{elt tg iter:Expr}{ifs:List Expr}{pos:Pos}{wi:TI}{g:TG}{tc:TT}{te:TE}
theorem zDE{use:Option (Value->Sem Unit)}{QQ:Value->Shared->Prop}(S:CompOk X N' ix scope)(hc:X.calm=true)(hi:PI X tg iter wi)
  (hg:∀ C cs s H ex,PG (cxC X N' scope C cs s H ex) tg g) (ht:∀ C cs s H ex,PTs (cxC X N' scope C cs s H ex) ifs tc) (he:∀ C cs s H ex,PE (cxC X N' scope C cs s H ex) elt te)
  {pins:List (Addr×Obj)} {s:Shared} {σ:St} {H:Hp} {Q:VK} (I:Inv X pins σ H s) (hw:tComp wi ix g tc te σ H Q)
  (fin:∀ (D C:Addr) (o:Obj) (H':Hp) (s':Shared),Inv X (pins++[(C,o)]) σ H' s'->(∃ m,s'.heap.Ns C m)->(X.s₀.heap.objs.size<=C)->(∀ x c,X.env.cells.lookup x=some c->c≠C)->(∀ p∈X.pn++pins,p.1≠C)->Q (.ref D) H'->compPost (model X.prog X.w) X.A X.xe use QQ (.ref D) C (.ok .next) s')
  (hs:∀ x,foldedSetIterable iter X.env x=pure x:=by intro _; rfl) :
  wpAny (model X.prog X.w) X.A (comprehension (.ListComp elt [⟨tg,iter,ifs,0⟩] scope pos) scope X.env (firstIterPos [⟨tg,iter,ifs,0⟩] pos) (newList []) false (eval iter X.env) use) QQ X.xe s:=by
 refine wpAny_comprehension_free (cl:=cloOf X.env.cells scope.names []) rfl hs (zBI fun x hx hk=>I.ok.has x.1 ((S.name hx).1 hk)) S.kind (fun x hx hl=>(S.name hx).2.1 hl) ?_
 refine thn (hi pins s σ H _ I hw) fun v s1 h1=>thn h1 fun itv s2 h2=>?_
 obtain⟨it,fp,tn,J,H2,e,I2,T,st2,f2,W,⟨m0,w0⟩,turn⟩:=h2
 subst e
 refine wpAny_newObj_type ?_
 refine zBo ?_
 generalize hH3:s2.heap.push { cls:=.type "list",dict:=none,data:=.seq ([]:List Value).toArray }=h3
 have hD3:h3.get? s2.heap.objs.size=some { cls:=.type "list",dict:=none,data:=.seq ([]:List Value).toArray }:=by rw[← hH3]; exact Heap.get?_push_size _ rfl
 have hk3:∀ b u,s2.heap.get? b=some u->h3.get? b=some u:=fun b u e=>by rw[← hH3]; exact Heap.get?_push_of_some _ e
 have hz3:h3.objs.size=s2.heap.objs.size+1:=by rw[← hH3,Heap.size_push]
 have ho2:∀ b∈fp,∃ o,s2.heap.get? b=some o:=fun b hb=>by obtain⟨o,e,_⟩:=T.obj _ _ st2 b hb; exact⟨o,e⟩
 show codeAny (model X.prog X.w) X.A (.compStart (.ListComp elt [⟨tg,iter,ifs,0⟩] scope pos) 0 (.ref it) (.ref s2.heap.objs.size) (compEnvC scope (cellsFrom (h3.objs.size+1) scope.names (cloOf X.env.cells scope.names [])) h3.objs.size X.env)) (compPost (model X.prog X.w) X.A X.xe use QQ (.ref s2.heap.objs.size) h3.objs.size) { s2 with heap:=pushCells (h3.push { cls:=.type "dict",data:=.dict #[] }) scope.names }
 generalize hD:s2.heap.objs.size=D at hD3 hz3 ⊢
 generalize hC:h3.objs.size=C at hz3 ⊢
 generalize h4e:pushCells (h3.push { cls:=.type "dict",data:=.dict #[] }) scope.names=h4
 have hk4:∀ b u,h3.get? b=some u->h4.get? b=some u:=fun b u e=>by rw[← h4e]; exact pushCells_keeps _ _ b u (Heap.get?_push_of_some _ e)
 have I4:Inv (cxC X N' scope C (cellsFrom (C+1) scope.names (cloOf X.env.cells scope.names [])) s2 H2 fp) [] (frm ix σ) H2 { s2 with heap:=h4,toks:=s2.toks } :=
  zEI (D:=D) (o:={ cls:=.none,data:=.dict #[] }) S I2 f2 ho2 hc hk3 hC.symm (by rw[hC,hz3,hD]; exact Nat.le_succ _) h4e.symm
 have hcellD:∀ x c,(cellsFrom (C+1) scope.names (cloOf X.env.cells scope.names [])).lookup x=some c->c≠D:=fun x c h z=>by
  rcases zAc scope.names _ _ h with ⟨a,_⟩ | a
  ·rw[z,hz3]at a; omega
  ·rcases zAV scope.names [] a with ⟨hm,e⟩ | a
   ·obtain⟨c',hc'⟩:=I2.ok.has x ((S.name hm).1 rfl)
    rw[hc']at e
    obtain⟨v,q⟩:=I2.cell x c' hc'
    have e':c=c':=e
    rw[← e',z,← hD]at q
    exact absurd q.lt (Nat.lt_irrefl _)
   ·cases a
 have hDC:D≠C:=by rw[hz3]; exact Nat.ne_of_lt (Nat.lt_succ_self _)
 have hDfp:D∉fp:=fun hb=>by obtain⟨o,e⟩:=ho2 D hb; exact absurd (hD ▸ Heap.lt_size e) (Nat.lt_irrefl _)
 generalize hX':cxC X N' scope C (cellsFrom (C+1) scope.names (cloOf X.env.cells scope.names [])) s2 H2 fp=X' at I4
 have hfpX:∀ {H':Hp} {oD:Obj},(∀ b∈fp,H' b=none)->∀ b∈fp,FpOk X' [(D,oD)] H' b:=fun {H' oD} hn b hb=>by
  rw[← hX']
  refine⟨hn b hb,fun z=>?_,fun z=>?_,.inl hb,fun x c h z=>?_,fun p hp=>?_⟩
  rotate_right
  ·have hp':p∈[(D,oD)]:=hp
   have e:p=(D,oD):=by simpa using hp'
   subst e
   exact fun z=>hDfp (by rw[show D=b from z]; exact hb)
  ·obtain⟨o,e⟩:=ho2 b hb
   have z':b=C:=z
   have q:=Heap.lt_size e
   rw[z',hz3,hD]at q
   exact absurd (Nat.lt_trans (Nat.lt_succ_self D) q) (Nat.lt_irrefl _)
  ·have z':b∈frs X.stack:=z
   rcases List.mem_cons.mp (I2.stkSub b z') with e | e
   ·exact (f2 b hb).2.1 e
   ·exact (f2 b hb).2.2.1 e
  ·rw[← hX']at I4
   exact (I4.ok.exf b hb).2 x c h z
 have HDnone:H2 D=none:=I2.hok.fresh (by rw[hD]; exact Nat.le_refl _)
 have key:∀ (s':Shared),s'={ s2 with heap:=h4,toks:=s2.toks } ->
   codeAny (model X.prog X.w) X.A (.compLoop (.ListComp elt [⟨tg,iter,ifs,0⟩] scope pos) 0 (.ref it) (.ref D) X'.env) (compPost (model X.prog X.w) X.A X.xe use QQ (.ref D) C) s':=by
  rintro s' rfl
  refine zDo (fun n s'=>∃ i ys σ' H' its,Inv X' [] σ' H' s'/\tn i s'.heap/\(∀ b∈fp,H' b=none)/\H' D=none/\s'.heap.PlainList D its/\Vals ys its.toList/\W i n ys σ' H') ?_ m0
   ⟨0,[],frm ix σ,H2,#[],I4,T.keep _ _ _ st2 fun b hb o e=>hk4 b o (hk3 b o e),fun b hb=>(f2 b hb).1,HDnone,⟨_,hk4 _ _ hD3⟩,.nil,w0⟩
  rintro n s3 ⟨i,ys,σ3,H3,its,I3,st3,fr3,hD3n,hpl,hv,w3⟩
  have hc':X'.calm=true:=by rw[← hX']; exact hc
  have xe':∀ e s,X'.xe e s->False:=by rw[← hX']; exact fun _ _ z=>z
  have pr:X'.prog=X.prog:=by rw[← hX']; rfl
  have pw:X'.w=X.w:=by rw[← hX']; rfl
  have pK:X'.K=X.K:=by rw[← hX']; rfl
  have pA:X'.A=X.A:=by rw[← hX']; rfl
  have p0:X'.s₀=s2:=by rw[← hX']; rfl
  have pH:X'.H₀=H2:=by rw[← hX']; rfl
  have px:X'.ex=fp:=by rw[← hX']; rfl
  have pf:X'.fs=frs X.stack:=by rw[← hX']; rfl
  have pL:X'.env.locals=C:=by rw[← hX']; rfl
  have pn0:X'.pn=[]:=by rw[← hX']; rfl
  have pcs:X'.env.cells=cellsFrom (C+1) scope.names (cloOf X.env.cells scope.names []):=by rw[← hX']; rfl
  obtain⟨nD,hoD⟩:=id hpl
  have Dfs:D∉X'.fs:=fun z=>by
   rw[pf]at z
   rcases List.mem_cons.mp (I2.stkSub D z) with e | e
   ·have q:=I2.lt; rw[← e,hD]at q; exact Nat.lt_irrefl _ q
   ·exact I2.nofs (by rw[hD]; exact Nat.le_refl _) e
  have I3':Inv X' [(D,_)] σ3 H3 s3:=I3.pins_of fun p hp=>by
   have e:p=(D,_):=List.mem_singleton.mp hp
   subst e
   exact⟨hoD,hD3n,by rw[pL]; exact hDC,Dfs,fun v z=>by cases z⟩
  have hg':PG X' tg g:=hX' ▸ hg _ _ _ _ _
  have ht':PTs X' ifs tc:=hX' ▸ ht _ _ _ _ _
  have he':PE X' elt te:=hX' ▸ he _ _ _ _ _
  have hsizes:its.toList.length=ys.length:=hv.length.symm
  rcases turn i n ys σ3 H3 w3 with ⟨stop,hlen,qn⟩ | ⟨go,hlt,N,hN,step⟩
  ·-- the end
   have T':=T.done X' pr pw pK hc' i _ s3 σ3 H3 (fun _ _=>False) I3' (hfpX fr3) st3 stop
   rw[pA]at T'
   refine thn T' fun r s4 ⟨hr,I5⟩=>?_
   subst hr
   obtain⟨gD,nDn,_,_,_⟩:=I5.pin (D,_) (List.mem_append_right _ (List.mem_singleton.mpr rfl))
   have gD':s4.heap.get? D=some { cls:=.type "list",data:=.seq its nD }:=gD
   obtain⟨m,hns,_⟩:=I5.loc
   rw[pL]at hns
   obtain⟨oC,es,ep,hoC,hdC,_⟩:=id hns
   have ub:Un (frs X.stack) fp H2 H3 s2.heap s4.heap:=by
    have q:=I5.base
    rw[px,pH,p0]at q
    rw[← pf]; exact q
   have bLt:∀ b u,s2.heap.get? b=some u->b≠D:=fun b u e z=>by have q:=Heap.lt_size e; rw[z,hD]at q; exact Nat.lt_irrefl _ q
   have u':Un (frs X.stack) fp H2 (upd H3 D (.lst ys)) s2.heap s4.heap :=
    ⟨ub.keep,ub.slot,fun b o e n hx=>by rw[zAB (bLt b o e)]; exact ub.free b o e n hx,ub.there,fun b xs e=>by rw[zAB (zAC (ub.tups b xs e) hD3n)]; exact ub.tups b xs e,
     fun b o u e=>by rw[zAB (zAC (ub.frzs b o u e) hD3n)]; exact ub.frzs b o u e,fun b ps e=>by obtain⟨more,q⟩:=ub.tbls b ps e; exact⟨more,by rw[zAB (zAC q hD3n)]; exact q⟩⟩
   have hok':HOk X.prog X.w (upd H3 D (.lst ys)) s4.heap:=by
    have q:=I5.hok
    rw[pr,pw]at q
    exact q.adopt hD3n ⟨hlen,its.toList,nD,hv,by simpa using gD'⟩
   have os':s4.os=s2.os:=by have q:=I5.os; rw[p0]at q; exact q
   have Iend:Inv X pins σ (upd H3 D (.lst ys)) s4:=I2.call' (ch:=fp) os' u' hok' I5.bare fun b hb=>⟨(f2 b hb).2.2.2.1,(f2 b hb).2.1,(f2 b hb).2.2.2.2.1,(f2 b hb).2.2.2.2.2⟩
   have hsC:s2.heap.objs.size<=C:=by rw[hz3,hD]; exact Nat.le_succ _
   have freeC:upd H3 D (.lst ys) C=none:=by rw[zAB (Ne.symm hDC)]; have q:=I5.free; rw[pL]at q; exact q
   have Iend':Inv X (pins++[(C,oC)]) σ (upd H3 D (.lst ys)) s4:=Iend.pins_of fun p hp=>by
    rcases List.mem_append.mp hp with hp | hp
    ·exact Iend.pin p (List.mem_append_right _ hp)
    ·have e:p=(C,oC):=List.mem_singleton.mp hp
     subst e
     exact⟨hoC,freeC,Nat.ne_of_gt (Nat.lt_of_lt_of_le I2.lt hsC),I2.nofs hsC,fun v z=>by rw[show oC.data=Data.cell v from z]at hdC; cases hdC⟩
   exact fin D C oC _ s4 Iend' ⟨m,hns⟩ (Nat.le_trans I2.sz hsC) (fun x c h z=>by obtain⟨v,q⟩:=I2.cell x c h; exact absurd (Nat.lt_of_lt_of_le q.lt hsC) (by rw[z]; exact Nat.lt_irrefl _))
    (fun p hp z=>by have q:=Heap.lt_size (I2.pin p hp).1; exact absurd (Nat.lt_of_lt_of_le q hsC) (by rw[z]; exact Nat.lt_irrefl _)) (qn D hD3n)
  ·have T':=T.item X' pr pw pK hc' i _ s3 σ3 H3 (fun _ _=>False) I3' (hfpX fr3) st3 go
   rw[pA]at T'
   refine thn T' fun r s4 ⟨u,hr,h4'⟩=>?_
   subst hr
   refine thn h4' fun _ s5 ⟨x,H5,I5,r5,y5,st5,fr5⟩=>?_
   have I5':=I5.pinned (hfpX fr5) (T.obj _ _ st5)
   have A1:=hg' _ s5 σ3 H5 x u _ I5' r5 (step x H5 y5)
   rw[pr,pw,pA]at A1
   refine wpAny_mono A1 (fun _ s6 ⟨σ6,H6,I6,q6⟩=>?_) xe'
   have A2:=ht' _ s6 σ6 H6 _ I6 q6
   rw[pr,pw,pA]at A2
   refine wpAny_mono A2 (fun b s7 ⟨H7,I7,q7⟩=>?_) xe'
   have pinD:∀ {σ':St} {H':Hp} {s':Shared},Inv X' ([(D,{ cls:=.type "list",data:=.seq its nD })]++pinsAt fp s5.heap) σ' H' s'->s'.heap.get? D=some { cls:=.type "list",data:=.seq its nD }/\H' D=none/\(∀ b∈fp,∀ o,s5.heap.get? b=some o->s'.heap.get? b=some o/\H' b=none):=fun {σ' H' s'} J=>by
    obtain⟨a1,a2,_⟩:=J.pin (D,_) (List.mem_append_right _ (List.mem_append_left _ (List.mem_singleton.mpr rfl)))
    refine⟨a1,a2,fun b hb o e=>?_⟩
    obtain⟨b1,b2,_⟩:=J.pin (b,o) (List.mem_append_right _ (List.mem_append_right _ (zAp hb e)))
    exact⟨b1,b2⟩
   have frOf:∀ {σ':St} {H':Hp} {s':Shared},Inv X' ([(D,{ cls:=.type "list",data:=.seq its nD })]++pinsAt fp s5.heap) σ' H' s'->∀ b∈fp,H' b=none:=fun {σ' H' s'} J b hb=>by
    obtain⟨o,e,_⟩:=T.obj _ _ st5 b hb
    exact ((pinD J).2.2 b hb o e).2
   have bare:∀ {σ':St} {H':Hp} {s':Shared},Inv X' ([(D,{ cls:=.type "list",data:=.seq its nD })]++pinsAt fp s5.heap) σ' H' s'->Inv X' [] σ' H' s':=fun {σ' H' s'} J=>J.pins_of fun p hp=>nomatch hp
   cases b with
   | false =>
    obtain⟨m',hm,w'⟩:=hN ys σ6 H7 q7
    exact⟨m',hm,i+1,ys,σ6,H7,its,bare I7,T.keep _ _ _ st5 fun b hb o e=>((pinD I7).2.2 b hb o e).1,frOf I7,(pinD I7).2.1,⟨nD,(pinD I7).1⟩,hv,w'⟩
   | true =>
    have A3:=he' _ s7 σ6 H7 _ I7 q7
    rw[pr,pw,pA]at A3
    refine wpAny_mono A3 (fun v s8 ⟨x8,H8,I8,r8,q8⟩=>?_) xe'
    refine wpAny_list_append_plain (items:=its) ⟨nD,(pinD I8).1⟩ (fun h9 hl9 hs9=>?_) (by
     have:its.size=its.toList.length:=by simp
     rw[this,hsizes]; exact Nat.le_of_lt hlt)
    obtain⟨m',hm,w'⟩:=hN (ys++[x8]) σ6 H8 q8
    have I9:Inv X' [] σ6 H8 { s8 with heap:=h9,toks:=s8.toks }:=(bare I8).turned (t':=s8.toks) (it:=D) (fun b o hb e=>(hs9.2 b hb).trans e) (pinD I8).2.1 (by rw[pL]; exact hDC) (.inr (by rw[p0,hD]; exact Nat.le_refl _)) (by rw[pcs]; exact hcellD) (fun p hp=>by rw[pn0]at hp; exact nomatch hp)
    refine⟨m',hm,i+1,ys++[x8],σ6,H8,its.push v,I9,T.keep _ _ _ st5 fun b hb o e=>(hs9.2 b fun z=>hDfp (z ▸ hb)).trans ((pinD I8).2.2 b hb o e).1,frOf I8,(pinD I8).2.1,hl9,?_,w'⟩
    rw[Array.toList_push]
    exact hv.append (.cons r8 .nil)
 rw[← hX']at key
 exact codeAny_compStart_list (key _ rfl) (T.self _ 0 _ _ _ (T.keep _ _ _ st2 fun b hb o e=>hk4 b o (hk3 b o e)) (key _ rfl))
theorem zIp(S:CompOk X N' ix scope)(hc:X.calm=true)(hi:PI X tg iter wi)
  (hg:∀ C cs s H ex,PG (cxC X N' scope C cs s H ex) tg g) (ht:∀ C cs s H ex,PTs (cxC X N' scope C cs s H ex) ifs tc) (he:∀ C cs s H ex,PE (cxC X N' scope C cs s H ex) elt te)
  (hs:∀ x,foldedSetIterable iter X.env x=pure x:=by intro _; rfl):PE X (.ListComp elt [⟨tg,iter,ifs,0⟩] scope pos) (tComp wi ix g tc te):=by
 intro pins s σ H Q I h
 rw[eval_ListComp]
 refine zDE (use:=none) (QQ:=EP X pins σ Q) S hc hi hg ht he I h (fun D C o H' s' I' hns h1 h2 h3 q=>?_) hs
 obtain⟨m,hns⟩:=hns
 refine⟨m,hns,fun h' hs'=>⟨.ref D,H',?_,rfl,q⟩⟩
 obtain⟨a1,a2,a3,a4,_⟩:=I'.pin (C,o) (List.mem_append_right _ (List.mem_append_right _ (List.mem_singleton.mpr rfl)))
 exact I'.unpinned.turned (t':=s'.toks) (it:=C) (fun b u hb e=>(hs'.2 b hb).trans e) a2 a3 (.inr h1) h2 h3
theorem zIu{i:Nat}{x:Str}{pos' spos:Pos}(hN:X.N.Nodup)(hi':X.N[i]?=some x)(hx:Loc X.env.scope x)(S:CompOk X N' ix scope)(hc:X.calm=true)(hi:PI X tg iter wi)
  (hg:∀ C cs s H ex,PG (cxC X N' scope C cs s H ex) tg g) (ht:∀ C cs s H ex,PTs (cxC X N' scope C cs s H ex) ifs tc) (he:∀ C cs s H ex,PE (cxC X N' scope C cs s H ex) elt te)
  (hsw:swapsWith (.ListComp elt [⟨tg,iter,ifs,0⟩] scope pos) (some (.Name x pos')) spos.line X.env=pure true:=by rfl)
  (hf:X.fn x=true\/X.env.scope.names.lookup x=some .local:=by first | exact .inl rfl | exact .inr rfl | assumption)
  (hs:∀ x,foldedSetIterable iter X.env x=pure x:=by intro _; rfl):PS X (.Assign [.Name x pos'] (.ListComp elt [⟨tg,iter,ifs,0⟩] scope pos) spos) (tAsg (tComp wi ix g tc te) (gName i)):=by
 intro pins s σ H D I h
 rw[exec_Assign_Name_used _ _ _ _ hsw]
 refine wpAny_bind (wpAny_standAt (wpAny_bind ?_))
 show wpAny _ X.A (do let _ ← comprehension (.ListComp elt [⟨tg,iter,ifs,0⟩] scope pos) scope X.env _ (newList []) false (eval iter X.env) (some (assign (.Name x pos') X.env))) _ _ s
 refine wpAny_bind (thn (zDE (use:=some (assign (.Name x pos') X.env)) (QQ:=fun _ s'=>SP X pins D .next s') S hc hi hg ht he I h (fun E C o H' s' I' hns h1 h2 h3 q=>?_) hs) fun _ s' q=>wpAny_pure (wpAny_pure q))
 obtain⟨m,hns⟩:=hns
 have P:=zCg (pos:=pos') hN hi' hx hf
 refine thn (P _ s' σ H' (.ref E) (.ref E) _ I' rfl q) fun _ s2 ⟨σ2,H2,I2,q2⟩=>?_
 obtain⟨a1,_⟩:=I'.pin (C,o) (List.mem_append_right _ (List.mem_append_right _ (List.mem_singleton.mpr rfl)))
 obtain⟨b1,b2,b3,b4,_⟩:=I2.pin (C,o) (List.mem_append_right _ (List.mem_append_right _ (List.mem_singleton.mpr rfl)))
 refine⟨m,?_,fun h' hs'=>⟨σ2,H2,I2.unpinned.turned (t':=s2.toks) (it:=C) (fun b u hb e=>(hs'.2 b hb).trans e) b2 b3 (.inr h1) h2 h3,q2⟩⟩
 obtain⟨oC,es,ep,hoC,r⟩:=hns
 have e:oC=o:=by
  have q:=hoC.symm.trans a1
  exact Option.some.inj q
 subst e
 exact⟨oC,es,ep,b1,r⟩
end
structure Drawer(prog:Program)(w:World)(it l:Addr)(xs:Array Value)(St:Nat->Heap->Prop):Prop where
 keep:∀ k h h',St k h->(∀ o,h.get? it=some o->h'.get? it=some o)->(∀ o,h.get? l=some o->h'.get? l=some o)->St k h'
 live:∀ k h,St k h->∃ o,h.get? it=some o/\∀ v,o.data≠.cell v
 item:∀ (A:Around) (k:Nat) (s:Shared) (x:Value) (Q:Value->Shared->Prop) (E:Value->Shared->Prop),St k s.heap->xs[k]?=some x ->
  (∀ h',St (k+1) h'->Heap.SameBut it s.heap h'->Q x { s with heap:=h' })->wpAny (model prog w) A (Builtin.SmallTypes.nextOf (.ref it)) Q E s
 fini:∀ (A:Around) (k:Nat) (s:Shared) (Q:Value->Shared->Prop) (E:Value->Shared->Prop),A.handled=none->St k s.heap->xs[k]?=none ->
  (∀ h' e,Heap.ExtBut it s.heap h'->(∃ o,h'.get? e=some o/\o.cls=.type "StopIteration")->E (.ref e) { s with heap:=h' })->wpAny (model prog w) A (Builtin.SmallTypes.nextOf (.ref it)) Q E s
section
variable {prog:Program}{w:World}{A:Around}{E:Value->Shared->Prop}{s:Shared}
theorem zES(it l:Addr)(xs:Array Value)(hne:l≠it):Drawer prog w it l xs (fun k h=>h.IsListIter it l k/\h.IsList l xs) where
 keep:=fun k h h' st k1 k2=>⟨st.1.at k1,st.2.at k2⟩
 live:=fun k h st=>by obtain⟨⟨o,e,_,d⟩,_⟩:=st; exact⟨o,e,fun v z=>by rw[d]at z; cases z⟩
 item:=fun A k s x Q E st hx hQ=>wpAny_nextOf_list_item st.1 st.2 hx fun h' st' sb=>hQ h' ⟨st',st.2.extBut sb.extBut hne⟩ sb
 fini:=fun A k s Q E hh st hx hE=>wpAny_nextOf_list_end hh st.1 st.2 hx hE
theorem zFI{it t:Addr}{i:Nat}{items:Array Value}{x:Value}{Q:Value->Shared->Prop}(hit:s.heap.IsTupleIter it t i)(ht:s.heap.IsTuple t items)(hx:items[i]?=some x)
  (hQ:∀ h',h'.IsTupleIter it t (i+1)->Heap.SameBut it s.heap h'->Q x { s with heap:=h' }):wpAny (model prog w) A (Builtin.SmallTypes.nextOf (.ref it)) Q E s:=by
 obtain⟨oi,hoi,hci,hdi⟩:=id hit; obtain⟨ot,hot,_,nt,hdt⟩:=ht
 unfold Builtin.SmallTypes.nextOf; refine wpAny_bind (wpAny_callSpecial?_slot (name:=Str.ofString "__next__") hit.typeIs F.slot_tuple_iterator_next (wpAny_call_entry F.slot_tuple_iterator_next hit.typeIs F.entry_tuple_iterator_next ?_ (F.args_tuple_iterator_next_1 _)))
 show wpAny _ _ (field (.ref it) 0 >>= _) _ _ s; refine wpAny_bind (wpAny_field hoi hdi (x:=.ref t) rfl ?_)
 show wpAny _ _ (if (Value.ref t == Value.none)=true then _ else _) _ _ s; rw[if_neg (show ¬ ((Value.ref t == Value.none)=true) from Bool.false_ne_true)]
 show wpAny _ _ (field (.ref it) 1 >>= _) _ _ s; refine wpAny_bind (wpAny_field hoi hdi (x:=.int i 0) rfl ?_)
 show wpAny _ _ (seqItems? (.ref t) >>= _) _ _ s; refine wpAny_bind (wpAny_seqItems hot hdt ?_); simp only[Int.toNat_natCast,hx]
 refine wpAny_bind (wpAny_setField hoi hdi (by simp) (wpAny_pure ⟨x,rfl,wpAny_pure (hQ _ ?_ (Heap.SameBut.update ..))⟩))
 exact⟨_,Heap.get?_update_self _ hoi (Obj.isFreed_of_fields (Obj.data_mapFields hdi _)),(Obj.cls_mapFields ..).trans hci,by rw[Obj.data_mapFields hdi]; simp[rawInt]⟩
theorem zDK{it t:Addr}{i:Nat}{items:Array Value}{Q:Value->Shared->Prop}(hh:A.handled=none)(hit:s.heap.IsTupleIter it t i)(ht:s.heap.IsTuple t items)(hx:items[i]?=none)
  (hE:∀ h' e,Heap.ExtBut it s.heap h'->(∃ o,h'.get? e=some o/\o.cls=.type "StopIteration")->E (.ref e) { s with heap:=h' }):wpAny (model prog w) A (Builtin.SmallTypes.nextOf (.ref it)) Q E s:=by
 obtain⟨oi,hoi,hci,hdi⟩:=id hit; obtain⟨ot,hot,_,nt,hdt⟩:=ht
 unfold Builtin.SmallTypes.nextOf; refine wpAny_bind (wpAny_callSpecial?_slot (name:=Str.ofString "__next__") hit.typeIs F.slot_tuple_iterator_next (wpAny_call_entry F.slot_tuple_iterator_next hit.typeIs F.entry_tuple_iterator_next ?_ (F.args_tuple_iterator_next_1 _)))
 show wpAny _ _ (field (.ref it) 0 >>= _) _ _ s; refine wpAny_bind (wpAny_field hoi hdi (x:=.ref t) rfl ?_)
 show wpAny _ _ (if (Value.ref t == Value.none)=true then _ else _) _ _ s; rw[if_neg (show ¬ ((Value.ref t == Value.none)=true) from Bool.false_ne_true)]
 show wpAny _ _ (field (.ref it) 1 >>= _) _ _ s; refine wpAny_bind (wpAny_field hoi hdi (x:=.int i 0) rfl ?_)
 show wpAny _ _ (seqItems? (.ref t) >>= _) _ _ s; refine wpAny_bind (wpAny_seqItems hot hdt ?_); simp only[Int.toNat_natCast,hx]
 refine wpAny_bind (wpAny_rule (wpAny_bind (wpAny_setField hoi hdi (by simp) ?_))); show wpAny _ _ (newExc (.type "StopIteration") [] >>= _) _ _ _
 refine wpAny_bind ?_; simp only[newExc,newTuple]; refine wpAny_bind (wpAny_newObj_type ?_ (by size_fits)); refine wpAny_bind (m:=firstArgMember _ _) (wpAny_of_eq (a:=Value.none) (by first | rfl | (simp only[firstArgMember]; rfl)) ?_)
 refine wpAny_newObj_type ?_ (by size_fits); simp only[raiseNew]; refine wpAny_bind (wpAny_handled ?_); (first | rw[show A.in1.handled=none from hh] | rw[hh]); refine wpAny_bind (wpAny_pure (wpAny_throw ?_))
 exact hE _ _ (((Heap.SameBut.update ..).extBut.push _).push _) ⟨_,Heap.get?_push_size _ rfl,rfl⟩
theorem zFD(it l:Addr)(xs:Array Value)(hne:l≠it):Drawer prog w it l xs (fun k h=>h.IsTupleIter it l k/\h.IsTuple l xs) where
 keep:=fun k h h' st k1 k2=>⟨let ⟨o,e,r⟩:=st.1; ⟨o,k1 o e,r⟩,let ⟨o,e,r⟩:=st.2; ⟨o,k2 o e,r⟩⟩
 live:=fun k h st=>by obtain⟨⟨o,e,_,d⟩,_⟩:=st; exact⟨o,e,fun v z=>by rw[d]at z; cases z⟩
 item:=fun A k s x Q E st hx hQ=>zFI st.1 st.2 hx fun h' st' sb=>hQ h' ⟨st',st.2.extBut sb.extBut hne⟩ sb
 fini:=fun A k s Q E hh st hx hE=>zDK hh st.1 st.2 hx hE
structure ZAp(z TI TO i1 i2 l1 l2:Addr):Prop where
 a:ZipApart z TI TO i1 i2 l1 l2
 l1TI:l1≠TI
 l2TI:l2≠TI
structure ZSt(z TI TO i1 i2:Addr)(S1 S2:Nat->Heap->Prop)(k:Nat)(f0:Value)(h:Heap):Prop where
 z:IsZip h z TI TO f0
 ti:IsPair h TI (.ref i1) (.ref i2)
 to:∃ a b,IsPair h TO a b
 s1:S1 k h
 s2:S2 k h
variable {z TI TO i1 i2 l1 l2:Addr}{S1 S2:Nat->Heap->Prop}{xs ys:Array Value}{k:Nat}
theorem zFS{x y:Value}{Q:Value->Shared->Prop}(D:ZAp z TI TO i1 i2 l1 l2)(D1:Drawer prog w i1 l1 xs S1)(D2:Drawer prog w i2 l2 ys S2)(st:ZSt z TI TO i1 i2 S1 S2 k .none s.heap)(hx:xs[k]?=some x)(hy:ys[k]?=some y)
  (hQ:∀ h',ZSt z TI TO i1 i2 S1 S2 (k+1) (rawInt s.heap.objs.size) h'->IsPair h' s.heap.objs.size x y ->
   (∀ c o,c≠z->c≠TO->c≠i1->c≠i2->s.heap.get? c=some o->h'.get? c=some o)->Q (.ref s.heap.objs.size) { s with heap:=h' }) :
  wpAny (model prog w) A (Builtin.«zip.__next__» ⟨[.ref z],[]⟩) (fun fin s'=>∃ v,fin=.done (.ret v)/\Q v s') E s:=by
 obtain⟨hz,hTI,⟨a,b,hTO⟩,st1,st2⟩:=st
 obtain⟨⟨TIz,TOz,i1z,i2z,TITO,TIi1,TIi2,TOi1,TOi2,i12,l1z,l1TO,l1i1,l1i2,l2z,l2TO,l2i1,l2i2⟩,_,_⟩:=D
 show wpAny _ _ (field (.ref z) 2 >>= _) _ _ _; refine wpAny_bind (wpAny_field hz rfl (x:=.bool false) rfl ?_)
 show wpAny _ _ (field (.ref z) 3 >>= _) _ _ _; refine wpAny_bind (wpAny_field hz rfl (x:=.ref TI) rfl (wpAny_bind (wpAny_seqItems hTI rfl ?_)))
 show wpAny _ _ (Builtin.SmallTypes.ownedTupleIsFree (.ref z) >>= _) _ _ _; refine wpAny_bind ?_; unfold Builtin.SmallTypes.ownedTupleIsFree
 refine wpAny_bind (wpAny_field hz rfl (x:=.none) rfl (wpAny_pure ?_)); simp only[if_true]
 refine wpAny_bind (wpAny_rule (wpAny_bind (wpAny_field hz rfl (x:=.ref TO) rfl (wpAny_bind (wpAny_setField_rec hz (by simp) fun h1 z1 b1=>?_)))))
 have z1':IsZip h1 z TI TO .ellipsis:=z1
 refine wpAny_bind ?_; simp only[List.zipIdx_cons,List.zipIdx_nil,List.forIn_cons,List.forIn_nil]
 refine wpAny_bind (wpAny_bind (wpAny_onRaise ?_)); show wpAny _ _ (Builtin.SmallTypes.nextOf (.ref i1) >>= _) _ _ _
 refine wpAny_bind (D1.item _ k _ x _ _ (D1.keep _ _ _ st1 (fun o e=>b1.extBut _ _ i1z e) fun o e=>b1.extBut _ _ l1z e) hx fun h2 t1 b2=>wpAny_pure ?_)
 have o2:IsPair h2 TO a b:=b2.extBut _ _ TOi1 (b1.extBut _ _ TOz hTO)
 refine wpAny_bind (wpAny_seqItems o2 rfl (wpAny_bind (wpAny_updateSeq_pair o2 fun h3 o3 b3=>?_)))
 have o3':IsPair h3 TO x b:=o3
 refine wpAny_bind (wpAny_letGo (wpAny_pure (wpAny_bind (wpAny_bind (wpAny_onRaise ?_))))); show wpAny _ _ (Builtin.SmallTypes.nextOf (.ref i2) >>= _) _ _ _
 have s2':S2 k h3:=D2.keep _ _ _ st2 (fun o e=>b3.extBut _ _ TOi2.symm (b2.extBut _ _ i12.symm (b1.extBut _ _ i2z e))) fun o e=>b3.extBut _ _ l2TO (b2.extBut _ _ l2i1 (b1.extBut _ _ l2z e))
 refine wpAny_bind (D2.item _ k _ y _ _ s2' hy fun h4 t2 b4=>wpAny_pure ?_)
 have o4:IsPair h4 TO x b:=b4.extBut _ _ TOi2 o3'
 refine wpAny_bind (wpAny_seqItems o4 rfl (wpAny_bind (wpAny_updateSeq_pair o4 fun h5 o5 b5=>?_)))
 have o5':IsPair h5 TO x y:=o5
 refine wpAny_bind (wpAny_letGo (wpAny_pure (wpAny_pure (wpAny_bind (wpAny_seqItems o5' rfl (wpAny_bind (wpAny_newTuple ?_)))))))
 have hsz:h5.objs.size=s.heap.objs.size:=by rw[b5.1,b4.1,b3.1,b2.1,b1.1]
 have z5:IsZip h5 z TI TO .ellipsis:=b5.extBut _ _ TOz.symm (b4.extBut _ _ i2z.symm (b3.extBut _ _ TOz.symm (b2.extBut _ _ i1z.symm z1')))
 have k5:∀ c o,c≠z->c≠TO->c≠i1->c≠i2->s.heap.get? c=some o->h5.get? c=some o:=fun c o c1 c2 c3 c4 e=>b5.extBut _ _ c2 (b4.extBut _ _ c4 (b3.extBut _ _ c2 (b2.extBut _ _ c3 (b1.extBut _ _ c1 e))))
 have t1':S1 (k+1) h5:=D1.keep _ _ _ t1 (fun o e=>b5.extBut _ _ TOi1.symm (b4.extBut _ _ i12 (b3.extBut _ _ TOi1.symm e))) fun o e=>b5.extBut _ _ l1TO (b4.extBut _ _ l1i2 (b3.extBut _ _ l1TO e))
 have t2':S2 (k+1) h5:=D2.keep _ _ _ t2 (fun o e=>b5.extBut _ _ TOi2.symm e) fun o e=>b5.extBut _ _ l2TO e
 have hzlt:z < h5.objs.size:=Heap.lt_size z5
 show wpAny _ _ (Builtin.SmallTypes.ownedTupleHandOut (.ref z) (.ref h5.objs.size) >>= _) _ _ _; refine wpAny_bind ?_; unfold Builtin.SmallTypes.ownedTupleHandOut
 have z6:IsZip (h5.push { cls:=.type "tuple",data:=.seq #[x,y] }) z TI TO .ellipsis:=Heap.get?_push_of_some _ z5
 refine wpAny_bind (wpAny_setField_rec z6 (by simp) fun h7 z7 b7=>?_)
 have z7':IsZip h7 z TI TO (rawInt h5.objs.size):=z7
 refine wpAny_setField_rec z7' (by simp) fun h8 z8 b8=>?_
 have z8':IsZip h8 z TI TO (rawInt h5.objs.size):=z8
 have up:∀ c o,c≠z->h5.get? c=some o->h8.get? c=some o:=fun c o c1 e=>b8.extBut _ _ c1 (b7.extBut _ _ c1 (Heap.get?_push_of_some _ e))
 have p8:IsPair h8 h5.objs.size x y:=b8.extBut _ _ (Nat.ne_of_gt hzlt) (b7.extBut _ _ (Nat.ne_of_gt hzlt) (Heap.get?_push_size _ rfl))
 rw[hsz]at z8' p8
 refine wpAny_pure ⟨_,rfl,?_⟩
 show Q (.ref h5.objs.size) _
 rw[hsz]
 have uu:∀ c o,c≠z->c≠TO->c≠i1->c≠i2->s.heap.get? c=some o->h8.get? c=some o:=fun c o c1 c2 c3 c4 e=>up c o c1 (k5 c o c1 c2 c3 c4 e)
 exact hQ h8 ⟨z8',uu _ _ TIz TITO TIi1 TIi2 hTI,⟨x,y,up _ _ TOz o5'⟩,D1.keep _ _ _ t1' (fun o e=>up _ o i1z e) (fun o e=>up _ o l1z e),D2.keep _ _ _ t2' (fun o e=>up _ o i2z e) (fun o e=>up _ o l2z e)⟩ p8 uu
theorem zGi{Q:Fin->Shared->Prop}(hh:A.handled=none)(D:ZAp z TI TO i1 i2 l1 l2)(D1:Drawer prog w i1 l1 xs S1)(D2:Drawer prog w i2 l2 ys S2)(st:ZSt z TI TO i1 i2 S1 S2 k .none s.heap)(hend:xs[k]?=none\/ys[k]?=none)
  (hE:∀ h' e,(∀ c o,c≠z->c≠TO->c≠i1->c≠i2->s.heap.get? c=some o->h'.get? c=some o)->(∃ o,h'.get? e=some o/\o.cls=.type "StopIteration")->E (.ref e) { s with heap:=h' }) :
  wpAny (model prog w) A (Builtin.«zip.__next__» ⟨[.ref z],[]⟩) Q E s:=by
 obtain⟨hz,hTI,⟨a,b,hTO⟩,st1,st2⟩:=st
 obtain⟨⟨TIz,TOz,i1z,i2z,TITO,TIi1,TIi2,TOi1,TOi2,i12,l1z,l1TO,l1i1,l1i2,l2z,l2TO,l2i1,l2i2⟩,_,_⟩:=D
 show wpAny _ _ (field (.ref z) 2 >>= _) _ _ _; refine wpAny_bind (wpAny_field hz rfl (x:=.bool false) rfl ?_)
 show wpAny _ _ (field (.ref z) 3 >>= _) _ _ _; refine wpAny_bind (wpAny_field hz rfl (x:=.ref TI) rfl (wpAny_bind (wpAny_seqItems hTI rfl ?_)))
 show wpAny _ _ (Builtin.SmallTypes.ownedTupleIsFree (.ref z) >>= _) _ _ _; refine wpAny_bind ?_; unfold Builtin.SmallTypes.ownedTupleIsFree
 refine wpAny_bind (wpAny_field hz rfl (x:=.none) rfl (wpAny_pure ?_)); simp only[if_true]
 refine wpAny_bind (wpAny_rule (wpAny_bind (wpAny_field hz rfl (x:=.ref TO) rfl (wpAny_bind (wpAny_setField_rec hz (by simp) fun h1 z1 b1=>?_)))))
 have z1':IsZip h1 z TI TO .ellipsis:=z1
 refine wpAny_bind ?_; simp only[List.zipIdx_cons,List.zipIdx_nil,List.forIn_cons,List.forIn_nil]
 refine wpAny_bind (wpAny_bind (wpAny_onRaise ?_)); show wpAny _ _ (Builtin.SmallTypes.nextOf (.ref i1) >>= _) _ _ _
 have s1':S1 k h1:=D1.keep _ _ _ st1 (fun o e=>b1.extBut _ _ i1z e) fun o e=>b1.extBut _ _ l1z e
 cases hx:xs[k]? with
 | none =>
  refine wpAny_bind (D1.fini _ k _ _ _ hh s1' hx fun h2 e b2 he=>?_)
  obtain⟨oe,hoe,hce⟩:=he
  have z2:IsZip h2 z TI TO .ellipsis:=b2 _ _ i1z.symm z1'
  have ez:e≠z:=fun q=>by subst q; rw[z2]at hoe; cases hoe; simp at hce
  exact wpAny_setField_rec z2 (by simp) fun h3 _ b3=>hE h3 e (fun c o c1 _ c3 _ q=>b3.extBut _ _ c1 (b2 _ _ c3 (b1.extBut _ _ c1 q))) ⟨oe,b3.extBut _ _ ez hoe,hce⟩
 | some x =>
  have hy:ys[k]?=none:=by rcases hend with q | q; (rw[hx]at q; cases q); exact q
  refine wpAny_bind (D1.item _ k _ x _ _ s1' hx fun h2 t1 b2=>wpAny_pure ?_)
  have o2:IsPair h2 TO a b:=b2.extBut _ _ TOi1 (b1.extBut _ _ TOz hTO)
  refine wpAny_bind (wpAny_seqItems o2 rfl (wpAny_bind (wpAny_updateSeq_pair o2 fun h3 o3 b3=>?_)))
  refine wpAny_bind (wpAny_letGo (wpAny_pure (wpAny_bind (wpAny_bind (wpAny_onRaise ?_))))); show wpAny _ _ (Builtin.SmallTypes.nextOf (.ref i2) >>= _) _ _ _
  have s2':S2 k h3:=D2.keep _ _ _ st2 (fun o e=>b3.extBut _ _ TOi2.symm (b2.extBut _ _ i12.symm (b1.extBut _ _ i2z e))) fun o e=>b3.extBut _ _ l2TO (b2.extBut _ _ l2i1 (b1.extBut _ _ l2z e))
  refine wpAny_bind (D2.fini _ k _ _ _ hh s2' hy fun h4 e b4 he=>?_)
  obtain⟨oe,hoe,hce⟩:=he
  have z4:IsZip h4 z TI TO .ellipsis:=b4 _ _ i2z.symm (b3.extBut _ _ TOz.symm (b2.extBut _ _ i1z.symm z1'))
  have ez:e≠z:=fun q=>by subst q; rw[z4]at hoe; cases hoe; simp at hce
  exact wpAny_setField_rec z4 (by simp) fun h5 _ b5=>hE h5 e (fun c o c1 c2 c3 c4 q=>b5.extBut _ _ c1 (b4 _ _ c4 (b3.extBut _ _ c2 (b2.extBut _ _ c3 (b1.extBut _ _ c1 q))))) ⟨oe,b5.extBut _ _ ez hoe,hce⟩
end
def Sq(b:Bool)(K:PySem.W.Frag)(H:Hp)(a:Addr)(xs:List V):Prop:=if b then SqT K H a xs else SqL K H a xs
def SIt(b:Bool)(it l:Addr)(k:Nat)(h:Heap):Prop:=if b then h.IsTupleIter it l k else h.IsListIter it l k
def SOb(b:Bool)(l:Addr)(its:Array Value)(h:Heap):Prop:=if b then h.IsTuple l its else h.IsList l its
theorem SIt.keep{b:Bool}{it l:Addr}{k:Nat}{h h':Heap}(st:SIt b it l k h)(e:∀ o,h.get? it=some o->h'.get? it=some o):SIt b it l k h':=by
 cases b with
 | false=>exact (show h.IsListIter it l k from st).at e
 | true=>obtain⟨o,q,r⟩:=(show h.IsTupleIter it l k from st); exact⟨o,e o q,r⟩
theorem SIt.live{b:Bool}{it l:Addr}{k:Nat}{h:Heap}(st:SIt b it l k h):∃ o,h.get? it=some o/\∀ v,o.data≠.cell v:=by
 cases b with
 | false=>obtain⟨o,q,_,d⟩:=(show h.IsListIter it l k from st); exact⟨o,q,fun v z=>by rw[d]at z; cases z⟩
 | true=>obtain⟨o,q,_,d⟩:=(show h.IsTupleIter it l k from st); exact⟨o,q,fun v z=>by rw[d]at z; cases z⟩
theorem zAa{prog:Program}{w:World}(b:Bool)(it l:Addr)(xs:Array Value)(hne:l≠it):Drawer prog w it l xs (fun k h=>SIt b it l k h/\SOb b l xs h):=by
 cases b with
 | false=>exact zES it l xs hne
 | true=>exact zFD it l xs hne
section
variable {X:Cx}{pins:List (Addr×Obj)}{σ:St}{H:Hp}{s:Shared}
theorem Inv.sq{b:Bool}{a:Addr}{xs:List V}(I:Inv X pins σ H s)(h:Sq b X.K H a xs):∃ its:List Value,Vals xs its/\SOb b a its.toArray s.heap/\xs.length<=sizeLine:=by
 cases b with
 | false=>obtain⟨its,r,p,z⟩:=I.list h; exact⟨its,r,p.isList,z⟩
 | true=>obtain⟨its,r,p,z⟩:=I.tuple h; exact⟨its,r,p,z⟩
theorem Inv.sq_inj{b:Bool}{a:Addr}{xs ys:List V}(I:Inv X pins σ H s)(h:Sq b X.K H a xs)(h':Sq b X.K H a ys):xs=ys:=by
 cases b with
 | false=>exact I.list_inj h h'
 | true=>exact I.tuple_inj h h'
end
def Itz(b:Bool)(K:PySem.W.Frag)(a1 a2:Addr):It :=
 ⟨fun i H=>∃ xs ys x y,Sq b K H a1 xs/\Sq b K H a2 ys/\xs[i]?=some x/\ys[i]?=some y,
  fun i H v H'=>∃ T x y,v=.ref T/\H T=none/\H'=upd H T (.tup [x,y])/\(∀ xs,Sq b K H a1 xs->xs[i]?=some x)/\∀ ys,Sq b K H a2 ys->ys[i]?=some y,
  fun i H=>∃ xs ys,Sq b K H a1 xs/\Sq b K H a2 ys/\(xs.length<=i\/ys.length<=i)⟩
structure ZTn(b:Bool)(z TI TO i1 i2 a1 a2:Addr)(k:Nat)(h:Heap):Prop where
 z:IsZip h z TI TO .none
 ti:IsPair h TI (.ref i1) (.ref i2)
 to:∃ a b,IsPair h TO a b
 s1:SIt b i1 a1 k h
 s2:SIt b i2 a2 k h
theorem zHP{P:Program}{w:World}{K:PySem.W.Frag}{elts:List Expr}{x1:Nat}{tp:Pos}(b:Bool){z TI TO i1 i2 a1 a2:Addr}(D:ZAp z TI TO i1 i2 a1 a2) :
  Turn P w K (.Tuple elts x1 tp) (Itz b K a1 a2) [z,TI,TO,i1,i2] z (ZTn b z TI TO i1 i2 a1 a2) where
 mem:=by simp
 obj:=fun i h st c hc=>by
  simp only[List.mem_cons,List.not_mem_nil,or_false]at hc
  rcases hc with e | e | e | e | e
  ·exact⟨_,e ▸ st.z,fun v z=>by cases z⟩
  ·exact⟨_,e ▸ st.ti,fun v z=>by cases z⟩
  ·obtain⟨a,b,q⟩:=st.to; exact⟨_,e ▸ q,fun v z=>by cases z⟩
  ·obtain⟨o,q,d⟩:=st.s1.live; exact⟨o,e ▸ q,d⟩
  ·obtain⟨o,q,d⟩:=st.s2.live; exact⟨o,e ▸ q,d⟩
 keep:=fun i h h' st k=>⟨k z (by simp) _ st.z,k TI (by simp) _ st.ti,(let ⟨a,b,q⟩:=st.to; ⟨a,b,k TO (by simp) _ q⟩),st.s1.keep fun o e=>k i1 (by simp) o e,st.s2.keep fun o e=>k i2 (by simp) o e⟩
 item:=by
  intro X hP hw hK hc i pins s σ H E I hf st hg
  subst hP hw hK
  obtain⟨xs,ys,x,y,h1,h2,hx,hy⟩:=hg
  obtain⟨its1,v1,o1,z1⟩:=I.sq h1
  obtain⟨its2,v2,o2,z2⟩:=I.sq h2
  obtain⟨u1,e1,r1⟩:=v1.get hx
  obtain⟨u2,e2,r2⟩:=v2.get hy
  have hT:s.TypeIs (.ref z) "zip":=⟨_,st.z,rfl⟩
  have nH:∀ c∈[z,TI,TO,i1,i2],H c=none:=fun c hc=>(hf c hc).1
  unfold pyNext
  refine wpAny_bind (wpAny_attempt (wpAny_callSpecial?_slot (name:=Str.ofString "__next__") hT F.slot_zip_next (wpAny_call_entry F.slot_zip_next hT F.entry_zip_next
   (zFS D (zAa b i1 a1 its1.toArray D.a.l1i1) (zAa b i2 a2 its2.toArray D.a.l2i2) ⟨st.z,st.ti,st.to,⟨st.s1,o1⟩,⟨st.s2,o2⟩⟩ (by simpa using e1) (by simpa using e2) fun h' st' hp hk=>wpAny_pure ?_) (F.args_zip_next_1 _))))
  refine⟨_,rfl,?_⟩
  have fT:H s.heap.objs.size=none:=I.hok.fresh (Nat.le_refl _)
  have hk':∀ c o,c∉[z,TO,i1,i2]->s.heap.get? c=some o->h'.get? c=some o:=fun c o hc e=>by
   simp only[List.mem_cons,List.not_mem_nil,or_false,not_or]at hc
   exact hk c o hc.1 hc.2.1 hc.2.2.1 hc.2.2.2 e
  have sub:∀ c∈[z,TO,i1,i2],c∈[z,TI,TO,i1,i2]:=fun c hc=>by
   simp only[List.mem_cons,List.not_mem_nil,or_false]at hc ⊢
   rcases hc with e | e | e | e <;> simp[e]
  have trk:∀ c u,H c=some u->c∉[z,TO,i1,i2]:=fun c u e hc=>by rw[nH c (sub c hc)]at e; cases e
  have nT:∀ c o,s.heap.get? c=some o->c≠s.heap.objs.size:=fun c o e=>Nat.ne_of_lt (Heap.lt_size e)
  have hok1:HOk X.prog X.w H h':=fun c u e=>(I.hok c u e).stay (fun d v hd q=>hk' d v (by
   rcases hd with rfl | hd
   ·exact trk d u e
   ·exact trk d _ hd) q) (fun _ q=>q) fun _ _ q=>q
  have I1:Inv X pins σ (upd H s.heap.objs.size (.tup [x,y])) { s with heap:=h',toks:=s.toks }:=by
   refine I.step (g':=s.gens) (d':=s.drawn) (t':=s.toks) (ch:=[z,TO,i1,i2]) (fun c hc=>?_) (fun c o _ _ hc e _=>hk' c o hc e) (fun c o _ _ hc e _=>⟨o.slots,hk' c o hc e⟩)
    (fun c o _ e n=>by rw[zAB (nT c o e)]; exact n) (fun c o hc e=>⟨o,hk' c o hc e⟩) (fun c xs e=>by rw[zAB (zAC e fT)]; exact e) (fun c o u e=>by rw[zAB (zAC e fT)]; exact e)
    (fun c ps e=>⟨#[],by rw[zAB (zAC e fT),e]; simp⟩) (fun m hm=>?_) (hok1.adopt fT ⟨by show 2<=sizeLine; decide,[u1,u2],.cons r1 (.cons r2 .nil),_,hp,rfl,⟨0,rfl⟩,rfl⟩) I.bare
   ·obtain⟨_,f1,f2,f3,f4,f5⟩:=hf c (sub c hc); exact⟨f3,f1,f4,f5⟩
   ·obtain⟨o,es,ep,ho,r⟩:=hm
    exact⟨o,es,ep,hk' _ o (fun hc=>(hf _ (sub _ hc)).2.1 rfl) ho,r⟩
  refine wpAny_letOwnedTupleGo_zip st'.z fun h9 hz2 hs2=>?_
  obtain⟨_,f1,f2,f3,f4,f5⟩:=hf z (by simp)
  have nz:upd H s.heap.objs.size (.tup [x,y]) z=none:=by rw[zAB (nT z _ st.z)]; exact nH z (by simp)
  have I2:Inv X pins σ (upd H s.heap.objs.size (.tup [x,y])) { s with heap:=h9,toks:=s.toks }:=by
   have q:=I1.turned (h':=h9) (t':=s.toks) (it:=z) (fun c o hc e=>(hs2.2 c hc).trans e) nz f1 f3 f4 f5
   exact q
  refine⟨.ref s.heap.objs.size,_,I2,rfl,⟨s.heap.objs.size,x,y,rfl,fT,rfl,fun xs' q=>by rw[I.sq_inj q h1]; exact hx,fun ys' q=>by rw[I.sq_inj q h2]; exact hy⟩,?_,fun c hc=>?_⟩
  ·have up:∀ c o,c≠z->h'.get? c=some o->h9.get? c=some o:=fun c o hc e=>(hs2.2 c hc).trans e
   exact⟨hz2,up _ _ D.a.TIz st'.ti,(let ⟨a,b,q⟩:=st'.to; ⟨a,b,up _ _ D.a.TOz q⟩),st'.s1.1.keep fun o e=>up _ o D.a.i1z e,st'.s2.1.keep fun o e=>up _ o D.a.i2z e⟩
  ·obtain⟨o,e,_⟩:∃ o,s.heap.get? c=some o/\True:=by
    simp only[List.mem_cons,List.not_mem_nil,or_false]at hc
    rcases hc with e | e | e | e | e
    ·exact⟨_,e ▸ st.z,trivial⟩
    ·exact⟨_,e ▸ st.ti,trivial⟩
    ·obtain⟨a,b,q⟩:=st.to; exact⟨_,e ▸ q,trivial⟩
    ·obtain⟨o,q,d⟩:=st.s1.live; exact⟨o,e ▸ q,trivial⟩
    ·obtain⟨o,q,d⟩:=st.s2.live; exact⟨o,e ▸ q,trivial⟩
   rw[zAB (nT c o e)]; exact nH c hc
 done:=by
  intro X hP hw hK hc i pins s σ H E I hf st hg
  subst hP hw hK
  obtain⟨xs,ys,h1,h2,hl⟩:=hg
  obtain⟨its1,v1,o1,z1⟩:=I.sq h1
  obtain⟨its2,v2,o2,z2⟩:=I.sq h2
  have l1:=v1.length
  have l2:=v2.length
  have hT:s.TypeIs (.ref z) "zip":=⟨_,st.z,rfl⟩
  unfold pyNext
  refine wpAny_bind (wpAny_attempt (wpAny_callSpecial?_slot (name:=Str.ofString "__next__") hT F.slot_zip_next (wpAny_call_entry F.slot_zip_next hT F.entry_zip_next
   (zGi (I.ok.hd hc) D (zAa b i1 a1 its1.toArray D.a.l1i1) (zAa b i2 a2 its2.toArray D.a.l2i2) ⟨st.z,st.ti,st.to,⟨st.s1,o1⟩,⟨st.s2,o2⟩⟩
    (hl.imp (fun q=>by simp; omega) fun q=>by simp; omega) fun h' e hk he=>?_) (F.args_zip_next_1 _))))
  obtain⟨o,ho,hcl⟩:=he
  refine wpAny_bind (wpAny_isInstance (T:="StopIteration") (b:=true) ⟨o,ho,hcl⟩ isSubtype_stop (wpAny_pure ⟨rfl,?_⟩))
  have hk':∀ c o,c∉[z,TO,i1,i2]->s.heap.get? c=some o->h'.get? c=some o:=fun c o hc e=>by
   simp only[List.mem_cons,List.not_mem_nil,or_false,not_or]at hc
   exact hk c o hc.1 hc.2.1 hc.2.2.1 hc.2.2.2 e
  have sub:∀ c∈[z,TO,i1,i2],c∈[z,TI,TO,i1,i2]:=fun c hc=>by
   simp only[List.mem_cons,List.not_mem_nil,or_false]at hc ⊢
   rcases hc with e | e | e | e <;> simp[e]
  have trk:∀ c u,H c=some u->c∉[z,TO,i1,i2]:=fun c u e hc=>by rw[(hf c (sub c hc)).1]at e; cases e
  refine I.step (g':=s.gens) (d':=s.drawn) (t':=s.toks) (ch:=[z,TO,i1,i2]) (fun c hc=>?_) (fun c o _ _ hc e _=>hk' c o hc e) (fun c o _ _ hc e _=>⟨o.slots,hk' c o hc e⟩)
   (fun c o _ e n=>n) (fun c o hc e=>⟨o,hk' c o hc e⟩) (fun c xs e=>e) (fun c o u e=>e) (fun c ps e=>⟨#[],by rw[e]; simp⟩) (fun m hm=>?_) (fun c u e=>(I.hok c u e).stay (fun d v hd q=>hk' d v (by
    rcases hd with rfl | hd
    ·exact trk d u e
    ·exact trk d _ hd) q) (fun _ q=>q) fun _ _ q=>q) I.bare
  ·obtain⟨_,f1,f2,f3,f4,f5⟩:=hf c (sub c hc); exact⟨f3,f1,f4,f5⟩
  ·obtain⟨o,es,ep,ho,r⟩:=hm
   exact⟨o,es,ep,hk' _ o (fun hc=>(hf _ (sub _ hc)).2.1 rfl) ho,r⟩
 self:=fun _ _ _ _ _ st h=>wpAny_pyIter_zip st.z h
section
variable {prog:Program}{w:World}{A:Around}{E:Value->Shared->Prop}{s:Shared}
abbrev zT1(h:Heap)(l1:Addr):Heap:=h.push { cls:=.type "tuple_iterator",data:=.fields #[.ref l1,.int 0 0] }
abbrev zT2(h:Heap)(l1 l2:Addr):Heap:=(zT1 h l1).push { cls:=.type "tuple_iterator",data:=.fields #[.ref l2,.int 0 0] }
abbrev zT3(h:Heap)(l1 l2:Addr):Heap:=(zT2 h l1 l2).push { cls:=.type "tuple",data:=.seq #[.ref h.objs.size,.ref (zT1 h l1).objs.size] }
abbrev zT4(h:Heap)(l1 l2:Addr):Heap:=(zT3 h l1 l2).push { cls:=.type "tuple",data:=.seq #[.none,.none] }
abbrev zT5(h:Heap)(l1 l2:Addr):Heap:=(zT4 h l1 l2).push { cls:=.type "zip",data:=.fields #[.none,.bool false,.bool false,.ref (zT2 h l1 l2).objs.size,.ref (zT3 h l1 l2).objs.size] }
theorem zFC(l1 l2:Addr)(xs ys:Array Value) :
  Meets (Builtin.«zip.__new__» ⟨[.type "zip",.ref l1,.ref l2],[]⟩) (fun _ R s=>s.heap.IsTuple l1 xs/\s.heap.IsTuple l2 ys/\R (.ok (.ret (.ref (zT4 s.heap l1 l2).objs.size))) { s with heap:=zT5 s.heap l1 l2 }) :=
 .of_wp fun prog w A R s h=>by
  obtain⟨hp,g,d,tk,os⟩:=s; obtain⟨hl1,hl2,h⟩:=h
  have sub0:=sub_zip
  have T1:Heap.IsTuple (Shared.heap ⟨hp,g,d,tk,os⟩) l1 xs:=hl1
  have T2:Heap.IsTuple (Shared.heap ⟨hp.push { cls:=.type "tuple_iterator",data:=.fields #[.ref l1,.int 0 0] },g,d,tk,os⟩) l2 ys:=Heap.IsTuple.push hl2 _
  wp_walk using wpAny_pyIter_tuple T1,wpAny_pyIter_tuple T2
  exact⟨_,rfl,h⟩
theorem zGh{l1 l2:Addr}{xs ys:Array Value}{Q:Value->Shared->Prop}(hl1:s.heap.IsTuple l1 xs)(hl2:s.heap.IsTuple l2 ys)
  (h:∀ h',ZTn true (s.heap.objs.size+4) (s.heap.objs.size+2) (s.heap.objs.size+3) s.heap.objs.size (s.heap.objs.size+1) l1 l2 0 h'->(∀ c o,s.heap.get? c=some o->h'.get? c=some o)->Q (.ref (s.heap.objs.size+4)) { s with heap:=h' }) :
  wpAny (model prog w) A (call (.type "zip") [.ref l1,.ref l2]) Q E s:=by
 refine callType_new F.called_zip (by decide) (F.typeCall_zip_2 _ _) (F.newCall_zip_2 _ _) (fun obj=>F.args_object_init_3 obj _ _) F.entry_zip_new (zFC l1 l2 xs ys) ⟨hl1,hl2,?_⟩
 have z1:(zT1 s.heap l1).objs.size=s.heap.objs.size+1:=Heap.size_push ..
 have z2:(zT2 s.heap l1 l2).objs.size=s.heap.objs.size+2:=by rw[Heap.size_push,z1]
 have z3:(zT3 s.heap l1 l2).objs.size=s.heap.objs.size+3:=by rw[Heap.size_push,z2]
 have z4:(zT4 s.heap l1 l2).objs.size=s.heap.objs.size+4:=by rw[Heap.size_push,z3]
 have up:∀ c o,(zT4 s.heap l1 l2).get? c=some o->(zT5 s.heap l1 l2).get? c=some o:=fun c o e=>Heap.get?_push_of_some _ e
 have g5:(zT5 s.heap l1 l2).get? (zT4 s.heap l1 l2).objs.size=some _:=Heap.get?_push_size _ rfl
 have g4:(zT5 s.heap l1 l2).get? (zT3 s.heap l1 l2).objs.size=some _:=up _ _ (Heap.get?_push_size _ rfl)
 have g3:(zT5 s.heap l1 l2).get? (zT2 s.heap l1 l2).objs.size=some _:=up _ _ (Heap.get?_push_of_some _ (Heap.get?_push_size _ rfl))
 have g2:(zT5 s.heap l1 l2).get? (zT1 s.heap l1).objs.size=some _:=up _ _ (Heap.get?_push_of_some _ (Heap.get?_push_of_some _ (Heap.get?_push_size _ rfl)))
 have g1:(zT5 s.heap l1 l2).get? s.heap.objs.size=some _:=up _ _ (Heap.get?_push_of_some _ (Heap.get?_push_of_some _ (Heap.get?_push_of_some _ (Heap.get?_push_size _ rfl))))
 show _/\_
 rw[z2,z3,z4]at g5
 rw[z1,z2]at g3
 rw[z3]at g4
 rw[z1]at g2
 rw[z4]
 exact⟨⟨_,g5,rfl⟩,h _ ⟨g5,g3,⟨_,_,g4⟩,⟨_,g1,rfl,rfl⟩,⟨_,g2,rfl,rfl⟩⟩ fun c o x=>up _ _ (Heap.get?_push_of_some _ (Heap.get?_push_of_some _ (Heap.get?_push_of_some _ (Heap.get?_push_of_some _ x))))⟩
end
open AutoSeq1 (wpAny_loadPart')
def rngV(lo:Int)(n:Nat):List V:=(List.range n).map fun (i:Nat)=>V.int (lo+(i:Int))
theorem zBs(lo:Int)(n:Nat):(rngV lo n).length=n:=by simp[rngV]
theorem zDY{lo:Int}{n:Nat}{acc:Array Value}(h:ItemsOf (fun i v=>∃ t,v=.int (lo+i * 1) t) acc n):Vals (rngV lo n) acc.toList:=by
 obtain⟨hn,hi⟩:=h
 have key:∀ (xs:List V) (us:List Value),xs.length=us.length->(∀ (i:Nat) (x:V) (u:Value),xs[i]?=some x->us[i]?=some u->RelV x u)->Vals xs us:=by
  intro xs
  induction xs with
  | nil=>intro us hl _; cases us with
   | nil=>exact .nil
   | cons _ _=>cases hl
  | cons x xs ih=>intro us hl hr; cases us with
   | nil=>cases hl
   | cons u us=>exact .cons (hr 0 x u rfl rfl) (ih us (by simpa using hl) fun i y v e1 e2=>hr (i+1) y v (by simpa using e1) (by simpa using e2))
 refine key _ _ (by rw[zBs]; simp[hn]) fun i x u e1 e2=>?_
 unfold rngV at e1
 rw[List.getElem?_map]at e1
 cases e3:(List.range n)[i]? with
 | none=>rw[e3]at e1; cases e1
 | some j =>
  rw[e3]at e1
  have hj:j=i/\i < n:=by
   obtain⟨h1,h2⟩:=List.getElem?_eq_some_iff.mp e3
   rw[List.getElem_range]at h2
   exact⟨h2.symm,by simpa using h1⟩
  obtain⟨rfl,hjn⟩:=hj
  have e1':x=V.int (lo+(j:Int)):=(Option.some.inj e1).symm
  subst e1'
  obtain⟨t,ht⟩:=hi j u (by simpa using e2)
  exact⟨t,by rw[ht]; simp⟩
section
variable {prog:Program}{w:World}{A:Around}{E:Value->Shared->Prop}{s:Shared}
theorem zEc{Q:List Value->Shared->Prop}{r:Addr}{a b c:Int}{t u v:Tok}{n:Nat}(hh:A.handled=none)(hr:IsRange s.heap r a b c t u v)(hsmall:Builtin.Range.small a b c=true)(hn:Builtin.Range.rangeSize a b c=n)(hlen:n<=2 ^ 24)
  (hQ:∀ h' tk acc,(∀ b o,s.heap.get? b=some o->h'.get? b=some o)->ItemsOf (fun i v=>∃ t,v=.int (a+i * c) t) acc n->Q acc.toList { s with heap:=h',toks:=tk }) :
  wpAny (model prog w) A (collect (.ref r)) Q E s:=by
 unfold collect
 refine wpAny_bind (wpAny_runValue (codeAny_builtin F.entry_proto_collect ?_)); rw[Around.under_plainId F.plain_proto_collect _]
 show wpAny _ A.in1 (newList [] >>= fun l=>again (.builtin "list.__iadd__" ⟨[l,.ref r],[]⟩)) _ _ s
 refine wpAny_bind (wpAny_newObj_type (wpAny_pure ⟨plainId_quiet F.plain_list_iadd _,codeAny_builtin F.entry_list_iadd ?_⟩)); rw[Around.under_plainId F.plain_list_iadd _]
 show wpAny _ A.in1 (Builtin.List.listExtendWith (.ref s.heap.objs.size) (.ref r) (.ref s.heap.objs.size)) _ _ _
 have hS:(s.heap.push { cls:=.type "list",data:=.seq ([]:List Value).toArray }).get? s.heap.objs.size=some { cls:=.type "list",data:=.seq ([]:List Value).toArray }:=Heap.get?_push_size _ rfl
 have hr2:IsRange (s.heap.push { cls:=.type "list",data:=.seq ([]:List Value).toArray }) r a b c t u v:=Heap.get?_push_of_some _ hr
 let RR:Result->Shared->Prop:=fun r s'=>match r with
  | .ok (.ret v)=>v=.ref s.heap.objs.size/\∃ h' tk acc c',s'={ s with heap:=h',toks:=tk }/\(∀ b o,s.heap.get? b=some o->h'.get? b=some o)/\h'.get? s.heap.objs.size=some { cls:=.type "list",dict:=none,data:=.seq acc c',slots:=#[] }/\ItemsOf (fun i v=>∃ t,v=.int (a+i * c) t) acc n
  | _=>False
 have go:∀ (v:Value) (s':Shared),RR (.ok (.ret v)) s'->wpAny (model prog w) A (match v with | .ref a=>(do match (← load a).data with | .seq xs _=>pure xs.toList | _=>unsupported "internal:collect") | _=>unsupported "internal:collect") Q E s':=fun v s' hR=>by
  obtain⟨rfl,h',tk,acc,c',rfl,hk,hS',hacc⟩:=hR
  show wpAny _ A (load s.heap.objs.size >>= _) _ _ _
  exact wpAny_bind (wpAny_load hS' (wpAny_pure (hQ h' tk acc hk hacc)))
 have base:=wpAny_extend_range (prog:=prog) (w:=w) (A:=A) (R:=RR) (s:={ s with heap:=s.heap.push { cls:=.type "list",data:=.seq ([]:List Value).toArray } }) hh hr2 hsmall hn hlen _ (.ref s.heap.objs.size) _ hS fun h' tk acc' c' hk hS' hacc =>
  ⟨rfl,h',tk,acc',c',rfl,fun b o e=>hk b o (Nat.ne_of_lt (Heap.lt_size e)) (Heap.get?_push_of_some _ e),hS',hacc⟩
 refine wpAny_mono base (fun fin s' h=>?_) (fun e s' h=>False.elim h)
 cases fin with
 | done f=>cases f with
  | ret v=>exact go v s' h
  | next=>exact False.elim h
  | brk=>exact False.elim h
  | cont=>exact False.elim h
 | again c' =>
  refine⟨h.1,codeAny_mono h.2 fun r s'' hr=>?_⟩
  cases r with
  | error e=>exact False.elim hr
  | ok f=>cases f with
   | ret v=>exact go v s'' hr
   | next=>exact False.elim hr
   | brk=>exact False.elim hr
   | cont=>exact False.elim hr
theorem zDw(r:Addr){a b c:Int}{t u v:Tok}{n:Nat}(hsmall:Builtin.Range.small a b c=true)(hn:Builtin.Range.rangeSize a b c=n)(hlen:n<=2 ^ 24) :
  Meets (Builtin.«tuple.__new__» ⟨[.type "tuple",.ref r],[]⟩) (fun A R s=>A.handled=none/\s.heap.get? r=some { cls:=.type "range",data:=.fields #[.int a t,.int b u,.int c v] }/\∀ (h':Heap) (tk:Nat) (acc:Array Value),(∀ b o,s.heap.get? b=some o->h'.get? b=some o) ->
   ItemsOf (fun i v=>∃ t,v=.int (a+i * c) t) acc n->R (.ok (.ret (.ref h'.objs.size))) { s with heap:=h'.push { cls:=.type "tuple",data:=.seq acc },toks:=tk }) :=
 .of_wp fun prog w A R s h=>by
  obtain⟨hh,hr,h⟩:=h
  have s1:=sub_tuple_self
  have s2:=init_tuple_lookup
  have s3:=madeHere_tuple
  have hT:s.TypeIs (.ref r) "range":=⟨_,hr,rfl⟩
  have hh1:A.in1.handled=none:=hh
  have hr':IsRange s.heap r a b c t u v:=hr
  wp_walk using wpAny_typeOf hT,zEc hh1 hr' hsmall hn hlen
  intro h' tk acc hk hacc
  show wpAny _ _ (Builtin.Tuple.tupleExact acc.toList.toArray >>= fun v=>ret v) _ _ _; unfold Builtin.Tuple.tupleExact
  refine wpAny_bind (wpAny_newObj_type ?_ (show acc.toList.toArray.size<=sizeLine by simp only[Array.toArray_toList]; rw[hacc.1,sizeLine_eq]; omega)); refine wpAny_pure ⟨_,rfl,?_⟩
  rw[show acc.toList.toArray=acc by simp]
  exact h h' tk acc hk hacc
theorem zEZ{Q:Value->Shared->Prop}{r:Addr}{a b c:Int}{t u v:Tok}{n:Nat}(hh:A.handled=none)(hr:s.heap.get? r=some { cls:=.type "range",data:=.fields #[.int a t,.int b u,.int c v] })(hsmall:Builtin.Range.small a b c=true)
  (hn:Builtin.Range.rangeSize a b c=n) (hlen:n<=2 ^ 24)
  (h:∀ (h':Heap) (tk:Nat) (acc:Array Value),(∀ b o,s.heap.get? b=some o->h'.get? b=some o)->ItemsOf (fun i v=>∃ t,v=.int (a+i * c) t) acc n->Q (.ref h'.objs.size) { s with heap:=h'.push { cls:=.type "tuple",data:=.seq acc },toks:=tk }) :
  wpAny (model prog w) A (call (.type "tuple") [.ref r]) Q E s :=
 callType_new F.called_tuple (by decide) (F.typeCall_tuple_1 _) (F.newCall_tuple_1 _) (fun obj=>F.args_object_init_2 obj _) F.entry_tuple_new (zDw r hsmall hn hlen) ⟨hh,hr,fun h' tk acc hk hacc=>⟨⟨_,Heap.get?_push_size _ rfl,rfl⟩,h h' tk acc hk hacc⟩⟩
end
section
variable {X:Cx}
theorem zGD:CallR X (.type "range") (fun xs H Q=>∃ j:Int,xs=[.int j]/\∀ p,H p=none->Q (.ref p) (upd H p (.rng 0 j))):=by
 intro pins s σ H xs us Q I r h
 obtain⟨j,rfl,q⟩:=h
 obtain⟨u,rfl,t,rfl⟩:=vals1 r
 refine call_range_1 ⟨.ref s.heap.objs.size,_,I.laid (fun b o e=>Heap.get?_push_of_some _ e) (Nat.le_refl _) (show ObjOk X.prog X.w _ _ _ (.rng 0 j) from ⟨_,_,_,Heap.get?_push_size _ rfl⟩),rfl,q _ (I.hok.fresh (Nat.le_refl _))⟩
theorem zGM:CallR X (.type "range") (fun xs H Q=>∃ i j:Int,xs=[.int i,.int j]/\∀ p,H p=none->Q (.ref p) (upd H p (.rng i j))):=by
 intro pins s σ H xs us Q I r h
 obtain⟨i,j,rfl,q⟩:=h
 obtain⟨u,u',rfl,⟨t,rfl⟩,⟨t',rfl⟩⟩:=vals2 r
 refine call_range_2 ⟨.ref s.heap.objs.size,_,I.laid (fun b o e=>Heap.get?_push_of_some _ e) (Nat.le_refl _) (show ObjOk X.prog X.w _ _ _ (.rng i j) from ⟨_,_,_,Heap.get?_push_size _ rfl⟩),rfl,q _ (I.hok.fresh (Nat.le_refl _))⟩
theorem rsz{lo hi:Int}:Builtin.Range.rangeSize lo hi 1=(((hi - lo).toNat:Nat):Int):=by rw[rangeSize_one]; split <;> omega
theorem zDz(hc:X.calm=true):CallR X (.type "list") (fun xs H Q=>∃ p lo hi,xs=[.ref p]/\H p=some (.rng lo hi)/\(-(2 ^ 62)<=lo/\lo < 2 ^ 62/\-(2 ^ 62)<=hi/\hi < 2 ^ 62)/\(hi - lo).toNat<=2 ^ 24/\∀ l,H l=none->Q (.ref l) (upd H l (.lst (rngV lo (hi - lo).toNat)))):=by
 intro pins s σ H xs us Q I r h
 obtain⟨p,lo,hi,rfl,hp,⟨b1,b2,b3,b4⟩,hl,q⟩:=h
 obtain⟨u,rfl,rx⟩:=vals1 r
 cases rx
 obtain⟨t,t',t'',ho⟩:=(show ObjOk X.prog X.w H s.heap p (.rng lo hi) from I.hok p _ hp)
 refine call_list_range (n:=(hi - lo).toNat) (I.ok.hd hc) ho (small_one b1 b2 b3 b4) rsz hl fun h' tk acc c' hk e hacc=>?_
 exact⟨.ref s.heap.objs.size,_,I.laid hk (Nat.le_refl _) (show ObjOk X.prog X.w _ h' _ (.lst _) from ⟨by rw[zBs,sizeLine_eq]; omega,acc.toList,c',zDY hacc,by simpa using e⟩),rfl,q _ (I.hok.fresh (Nat.le_refl _))⟩
theorem zDO(hc:X.calm=true):CallR X (.type "tuple") (fun xs H Q=>∃ p lo hi,xs=[.ref p]/\H p=some (.rng lo hi)/\(-(2 ^ 62)<=lo/\lo < 2 ^ 62/\-(2 ^ 62)<=hi/\hi < 2 ^ 62)/\(hi - lo).toNat<=2 ^ 24/\∀ l,H l=none->Q (.ref l) (upd H l (.tup (rngV lo (hi - lo).toNat)))):=by
 intro pins s σ H xs us Q I r h
 obtain⟨p,lo,hi,rfl,hp,⟨b1,b2,b3,b4⟩,hl,q⟩:=h
 obtain⟨u,rfl,rx⟩:=vals1 r
 cases rx
 obtain⟨t,t',t'',ho⟩:=(show ObjOk X.prog X.w H s.heap p (.rng lo hi) from I.hok p _ hp)
 refine zEZ (n:=(hi - lo).toNat) (I.ok.hd hc) ho (small_one b1 b2 b3 b4) rsz hl fun h' tk acc hk hacc=>?_
 have I1:Inv X pins σ H { s with heap:=h',toks:=tk }:=I.kept hk
 exact⟨.ref h'.objs.size,_,I1.laid (t':=tk) (fun b o e=>Heap.get?_push_of_some _ e) (Nat.le_refl _) (show ObjOk X.prog X.w _ _ _ (.tup _) from ⟨by rw[zBs,sizeLine_eq]; omega,acc.toList,zDY hacc,by simpa using TupD.new h' acc⟩),rfl,q _ (I1.hok.fresh (Nat.le_refl _))⟩
theorem zFP{bs:List Bool}:∀ {us:List Value},Vals (bs.map V.bl) us->LSm.BoolsAre us bs:=by
 induction bs with
 | nil=>intro us h; cases h; exact .nil
 | cons b bs ih=>intro us h; cases h with
  | cons r t=>cases r; exact .cons b (ih t)
theorem zG3(hc:X.calm=true):CallR X (.builtin "all") (fun xs H Q=>∃ (p:Addr) (bs:List Bool),xs=[.ref p]/\SqL X.K H p (bs.map V.bl)/\Q (.bl (bs.all id)) H):=by
 intro pins s σ H xs us Q I r h
 obtain⟨p,bs,rfl,hq,q⟩:=h
 obtain⟨u,rfl,rx⟩:=vals1 r
 cases rx
 obtain⟨its,rv,pl,hz⟩:=I.list hq
 have hb:=zFP rv
 have hl:=pl.isList
 have hlt:p < s.heap.objs.size:=by obtain⟨_,e,_⟩:=hl; exact Heap.lt_size e
 refine call_all_walk (wpAny_pyIter_list hl ?_)
 refine⟨s.heap.objs.size,[s.heap.objs.size,p],[s.heap.objs.size],its.toArray.size,_,_,fun i=>(bs[i]?).getD true,rfl,Walks.list (A:=X.A.in1) (I.ok.hd hc) _ p (Nat.ne_of_lt hlt) its.toArray,⟨⟨_,Heap.get?_push_size _ rfl,rfl,rfl⟩,hl.push _⟩,fun i v s' Q' E' hP hQ=>?_,fun h' tk hk=>?_⟩
 ·obtain⟨b,e,rfl⟩:=hb.get i v (by simpa using hP)
  simp only[e,Option.getD_some]at hQ
  exact wpAny_truthy_bool hQ
 ·have e:((List.range its.toArray.size).all fun i=>(bs[i]?).getD true)=bs.all id:=by rw[List.size_toArray,hb.length]; exact LSm.range_all bs
  rw[e]
  exact⟨.bl (bs.all id),H,I.kept (LSm.kept_iter hk),rfl,q⟩
end
theorem zCT(t:Addr)(items:Array Value)(n:Nat)(dd:Option Addr)(sl:Array (Option Value))(x:Value)(e:Value->Bool)(j:Nat)(hj:j < items.size)(hit:e items[j]=true)(hno:∀ m (hm:m < items.size),m < j->e items[m]=false) :
  Meets (Builtin.«tuple.index» ⟨[.ref t,x],[]⟩) (fun A R s=>s.heap.get? t=some { cls:=.type "tuple",dict:=dd,data:=.seq items n,slots:=sl }/\(∀ y,y∈items->SeqAt.EqAt A.in1 s y x (e y))/\R (.ok (.ret (.int j s.toks))) { s with toks:=s.toks+1 }) :=
 .of_wp fun prog w A R s h=>by
  obtain⟨hp,g,d,tk,os⟩:=s; obtain⟨hl,he,h⟩:=h
  wp_walk using wpAny_loadPart' hl
  show wpAny _ _ (forIn (m:=Sem) (β:=Option Fin×PUnit) [:min items.size items.size] (none,()) _) _ _ _
  rw[Std.Legacy.Range.forIn_eq_forIn_range']
  refine wpAny_forIn_list _ (fun rest b s'=>b=(none,())/\s'=⟨hp,g,d,tk,os⟩/\∃ i,i<=j/\rest=List.range' i (items.size - i) 1) _ ?_ ?_ _ _ ?_
  ·rintro i rest b s' ⟨rfl,rfl,k,hk,hr⟩
   have hlt:k < items.size:=by omega
   obtain⟨m,hm⟩:∃ m,items.size - k=m+1:=⟨items.size - k - 1,by omega⟩
   rw[hm,List.range'_succ]at hr
   injection hr with h1 h2
   subst h1
   have hi:items[i]?=some items[i]:=by simp[hlt]
   simp only[hi]
   refine wpAny_bind (he items[i] (Array.getElem_mem hlt) prog w _ _ ?_)
   by_cases hij:i=j
   ·subst hij
    rw[hit]
    simp only[if_true]
    refine wpAny_bind ?_
    show wpAny _ _ (do let v ← mkInt i; ret v) _ _ _
    exact wpAny_bind (wpAny_mkInt (wpAny_pure (wpAny_pure (wpAny_pure ⟨_,rfl,h⟩))))
   ·rw[hno i hlt (by omega)]
    simp only[Bool.false_eq_true,if_false]
    exact wpAny_pure ⟨rfl,rfl,i+1,by omega,by rw[h2]; congr 1; omega⟩
  ·rintro b s' ⟨rfl,rfl,k,hk,hr⟩
   have q:items.size - k=0:=by have q:=congrArg List.length hr; simp at q; omega
   omega
  ·refine⟨rfl,rfl,0,Nat.zero_le _,?_⟩
   simp[Std.Legacy.Range.size]
section
variable {X:Cx}
def rTupIndex(K:PySem.W.Frag):V->List V->Hp->VK->Prop:=fun x vs H Q=>∃ t xs y j,x=.ref t/\vs=[y]/\SqT K H t xs/\flatV y=true/\xs.all flatV=true/\(xs.findIdx? fun z=>eqV z y)=some j/\Q (.int (j:Nat)) H
theorem zEQ:MtM X "tuple.index" (rTupIndex X.K):=by
 intro pins s σ H x vs v us Q I rx rv h
 obtain⟨t,xs,y,j,rfl,rfl,hq,fy,fx,hj,q⟩:=h
 cases rx
 obtain⟨u,rfl,ru⟩:=rv.one
 obtain⟨its,r,⟨⟨cls,dd,data,sl⟩,ho,hc,n,hd⟩,hz⟩:=I.tuple hq
 simp only at hc hd
 subst hc hd
 have hlen:=r.length
 obtain⟨hjl,hjt,hjn⟩:=List.findIdx?_eq_some_iff_getElem.mp hj
 have hiU:∀ m (hm:m < its.length),eqU y its[m]=eqV (xs[m]'(by omega)) y:=fun m hm=>by
  have e1:xs[m]?=some (xs[m]'(by omega)):=by simp
  obtain⟨u',hu',ru'⟩:=r.get e1
  have e2:its[m]=u':=by rw[List.getElem?_eq_getElem hm]at hu'; exact Option.some.inj hu'
  rw[e2]
  exact zDW ru' (List.all_eq_true.mp fx _ (List.getElem_mem _))
 refine call_meets F.slot_tuple_index ⟨_,ho,rfl⟩ F.entry_tuple_index (F.args_tuple_index_2 _ _)
  (zCT t its.toArray n dd sl u (eqU y) j (by simp; omega) (by show eqU y its[j]=true; rw[hiU j (by omega)]; exact hjt) (fun m hm hmj=>by
   show eqU y its[m]=false
   rw[hiU m (by simpa using hm)]
   exact Bool.eq_false_iff.mpr (hjn m hmj))) ⟨ho,?_,?_⟩
 ·intro z hzm
  exact zA3 ru fy r fx z (by simpa using hzm)
 ·exact⟨.int (j:Nat),H,I.tok _,⟨_,rfl⟩,q⟩
end
section
variable {X:Cx}
theorem Same.upd{H:Hp}{p:Addr}{o:HO}(h:H p=none):Same H (upd H p o):=fun b u e=>by rw[zAB (zAC e h)]; exact e
end
theorem zHx{X:Cx}{x:Str}{T:String}{pos:Pos}(hg:Gl X x)(hm:X.mg x=none)(hv:bootBuiltins x=some (.type T))(hn:x≠"__name__":=by decide)(hd:(x == ("__debug__":Str))=false:=by decide):PE X (.Name x pos) (tC (.ty T)):=zH6 (v:=.ty T) hg hm hv rfl hn hd
theorem zEs{X:Cx}(K:PySem.W.Frag)(hK:X.K=K){es:List Expr}{k:Nat}{pos:Pos}{t:TGs}{n:Nat}(hc:X.calm=true)(h:PGs X es t)(hn:(assignEach es X.env).length=n:=by rfl)(hst:(assignEach es X.env).findIdx? (·.1)=none:=by rfl):PG X (.Tuple es k pos) (gTup K n t):=by
 subst hK
 exact zJF hc h hn hst
section
variable {prog:Program}{w:World}{A:Around}{E:Value->Shared->Prop}{s:Shared}
theorem zBJ{t sl:Addr}{items:Array Value}{vl vu:Value}{lo hi:Option Int}{Q:Value->Shared->Prop}(ht:IsTup s.heap t items)(hs:s.heap.IsSliceOf sl vl vu .none)(pl:IsPart vl lo)(pu:IsPart vu hi)
  (hw:HT.sIx items.size 0 lo=0/\HT.sIx items.size items.size hi=items.size) (h:Q (.ref t) s):wpAny (model prog w) A (getItem (.ref t) (.ref sl)) Q E s:=by
 obtain⟨os,hos,hcs,hds⟩:=id hs
 have hTs:s.TypeIs (.ref sl) "slice":=⟨os,hos,hcs⟩
 unfold getItem; try with_reducible refine wpAny_holding ?_
 first | refine wpAny_bind (wpAny_pure ?_) | skip
 refine wpAny_bind (wpAny_sequenceKey ht.typeIs (by decide) ?_); refine wpAny_bind (wpAny_callSpecial?_slot (name:=Str.ofString "__getitem__") ht.typeIs PyProof.Rows.slot_tuple_getitem (wpAny_call_entry PyProof.Rows.slot_tuple_getitem ht.typeIs entry_tuple_getitem ?_ (args_tuple_getitem _ _)))
 show wpAny _ _ (Builtin.Tuple.tupleItemsOf (.ref t) >>= _) _ _ s; refine wpAny_bind (tupleItemsOf_ ht ?_); refine wpAny_bind (wpAny_typeOf hTs ?_)
 rw[if_pos (by decide)]; refine wpAny_bind (HT.sliceApplied_gen hs pl pu ?_)
 have hyes:((((HT.sIx items.size 0 lo:Nat):Int) == 0 && (1:Int) == 1 && (HT.sIx items.size items.size hi - HT.sIx items.size 0 lo) == items.size)=true):=by
  rw[hw.1,hw.2]; simp
 show wpAny _ _ (if (((HT.sIx items.size 0 lo:Nat):Int) == 0 && (1:Int) == 1 && (HT.sIx items.size items.size hi - HT.sIx items.size 0 lo) == items.size)=true then _ else _) _ _ s
 rw[if_pos hyes]
 refine wpAny_bind ?_
 unfold Builtin.Tuple.tupleIsExact
 refine wpAny_bind (wpAny_typeOf ht.typeIs (wpAny_pure ?_))
 rw[if_pos (by decide)]
 exact wpAny_bind (wpAny_rule (wpAny_pure ⟨_,rfl,wpAny_pure h⟩))
end
end L2
namespace D
open PySem L2
abbrev Fg:=PySem.W.Frag
inductive T where
 | a (v:V)
 | t (xs:List T)
 | l (xs:List T)
 | f (n:Str)
 | x (c:Str) (fs:List (Str×V))
abbrev Dk:=Sum (List (Key×T)) (List (List Key×T))
inductive G where
 | v (t:T)
 | l (xs:List T)
 | r (xs:List T)
 | k (xs:List T)
 | d (kvs:Dk)
 | e (kvs:Dk)
def isMut:G->Bool
 | .l _=>true
 | .d _=>true
 | _=>false
inductive S where
 | v (t:T)
 | l (xs:List T)
 | s (i:Nat)
 | d (kvs:Dk)
abbrev En:=List (Option G)
abbrev DE:=En->Option (S×En)
abbrev DT:=En->Option (Bool×En)
abbrev DA:=En->Option (List S×En)
inductive O where
 | nx (g:En) | rt (s:S) (g:En) | bk (g:En) | ct (g:En)
abbrev DS:=En->Option O
def cOk:List V->Bool
 | .int _::_=>true
 | .ref _::_=>true
 | [.str x]=>decide (x="yes") || decide (x="no")
 | _=>false
def KT(K:Fg)(a:Addr)(xs:List V):Prop:=∃ (o:Obj) (its:Array Value) (n:Nat),K.lookup a=some o/\o.cls=.type "tuple"/\o.dict=none/\o.data=.seq its n/\its.size<=sizeLine/\Vals xs its.toList/\cOk xs=true
def Tp(K:Fg)(H:Hp)(p:Addr)(vs:List V):Prop:=H p=some (.tup vs)\/KT K p vs
theorem Tp.sq{K:Fg}{H:Hp}{p:Addr}{vs:List V}(h:Tp K H p vs):SqT K H p vs:=by
 rcases h with h | ⟨o,its,n,a,b,c,d,e,f,_⟩
 ·exact SqT.of h
 ·exact .inr ⟨o,its,n,a,b,d,e,f⟩
theorem Tp.of{K:Fg}{H:Hp}{p:Addr}{vs:List V}(h:H p=some (.tup vs)):Tp K H p vs:=.inl h
def KL(K:Fg)(a:Addr)(xs:List V):Prop:=∃ (o:Obj) (its:Array Value) (n:Nat),K.lookup a=some o/\o.cls=.type "list"/\o.dict=none/\o.data=.seq its n/\its.size<=sizeLine/\Vals xs its.toList
def KF(K:Fg)(H:Hp)(p:Addr)(vs:List V):Prop:=(∃ o,H p=some (.frz o (.lst vs)))\/KL K p vs
def XOk(K:Fg)(H:Hp)(p:Addr)(c:Str)(fs:List (Str×V)):Prop:=∃ (C:Addr) (d:Option Addr),PySem.W.nsIn K mainGlobals c=some (some (.ref C)) /\
 H p=some (.ext fun h=>∃ o,h.get? p=some o/\o.cls=.ref C/\o.dict=d/\PySem.W.notCls o=true)/\((d=none/\fs=[])\/∃ dx,d=some dx/\H dx=some (.xd fs))
def FOk(K:Fg)(v:V)(n:Str):Prop:=∃ p,v=.ref p/\PySem.W.nsIn K mainGlobals n=some (some (.ref p))
mutual
def Im(K:Fg)(H:Hp):V->T->Prop
 | v,.a u=>v=u
 | v,.t ts=>∃ p vs,v=.ref p/\Tp K H p vs/\Ims K H vs ts
 | v,.l ts=>∃ p vs,v=.ref p/\KF K H p vs/\Ims K H vs ts
 | v,.f n=>FOk K v n
 | v,.x c fs=>∃ p,v=.ref p/\XOk K H p c fs
def Ims(K:Fg)(H:Hp):List V->List T->Prop
 | vs,[]=>vs=[]
 | vs,t::ts=>∃ v r,vs=v::r/\Im K H v t/\Ims K H r ts
end
structure W where
 L:List Addr
 R:Addr->Prop
structure Fr where
 H0:Hp
 fx:List Addr
 pins:List (Nat×Addr)
def Evo(L:List Addr)(H H':Hp):Prop:=∀ b o,H b=some o->b∉L->H' b=some o
def Mu:HO->Prop
 | .lst _=>True
 | .dK _=>True
 | .dT _=>True
 | _=>False
def LL(L:List Addr)(H:Hp):Prop:=∀ p∈L,∃ o,H p=some o/\Mu o
theorem Evo.refl{L:List Addr}{H:Hp}:Evo L H H:=fun _ _ h _=>h
theorem Evo.trans{L:List Addr}{H H1 H2:Hp}(a:Evo L H H1)(b:Evo L H1 H2):Evo L H H2:=fun c o h n=>b c o (a c o h n) n
theorem Evo.wide{L L':List Addr}{H H':Hp}(a:Evo L' H H')(h:∀ p∈L',p∈L):Evo L H H':=fun c o e n=>a c o e fun z=>n (h c z)
theorem Evo.new{L:List Addr}{H:Hp}{p:Addr}{o:HO}(h:H p=none):Evo L H (upd H p o):=fun b u e _=>by rw[zAB (zAC e h)]; exact e
theorem Evo.of_same{L:List Addr}{H H':Hp}(h:Same H H'):Evo L H H':=fun b u e _=>h b u e
theorem zBP{K:Fg}{L:List Addr}{H H':Hp}{p:Addr}{vs:List V}(e:Evo L H H')(hL:LL L H)(h:Tp K H p vs):Tp K H' p vs:=by
 rcases h with h | h
 ·refine .inl (e _ _ h fun z=>?_)
  obtain⟨o,q,m⟩:=hL p z
  rw[h]at q; cases q; exact m
 ·exact .inr h
theorem KF.evo{K:Fg}{L:List Addr}{H H':Hp}{p:Addr}{vs:List V}(e:Evo L H H')(hL:LL L H)(h:KF K H p vs):KF K H' p vs:=by
 rcases h with ⟨o,h⟩ | h
 ·refine .inl ⟨o,e _ _ h fun z=>?_⟩
  obtain⟨o,q,m⟩:=hL p z
  rw[h]at q; cases q; exact m
 ·exact .inr h
theorem XOk.evo{K:Fg}{L:List Addr}{H H':Hp}{p:Addr}{c:Str}{fs:List (Str×V)}(e:Evo L H H')(hL:LL L H)(h:XOk K H p c fs):XOk K H' p c fs:=by
 obtain⟨C,d,h1,h2,h3⟩:=h
 refine⟨C,d,h1,e _ _ h2 fun z=>?_,h3.imp id fun ⟨dx,a,b⟩=>⟨dx,a,e _ _ b fun z=>?_⟩⟩
 ·obtain⟨o,q,m⟩:=hL p z
  rw[h2]at q; cases q; exact m
 ·obtain⟨o,q,m⟩:=hL dx z
  rw[b]at q; cases q; exact m
mutual
theorem Im.evo{K:Fg}{L:List Addr}{H H':Hp}(e:Evo L H H')(hL:LL L H):∀ {v:V} {t:T},Im K H v t->Im K H' v t
 | _,.a _,h=>h
 | _,.t _,h=>by
  unfold Im at h ⊢
  obtain⟨p,vs,rfl,hs,hi⟩:=h
  exact⟨p,vs,rfl,zBP e hL hs,Ims.evo e hL hi⟩
 | _,.l _,h=>by
  unfold Im at h ⊢
  obtain⟨p,vs,rfl,hs,hi⟩:=h
  exact⟨p,vs,rfl,hs.evo e hL,Ims.evo e hL hi⟩
 | _,.f _,h=>by
  unfold Im at h ⊢
  exact h
 | _,.x _ _,h=>by
  unfold Im at h ⊢
  obtain⟨p,rfl,hs⟩:=h
  exact⟨p,rfl,hs.evo e hL⟩
theorem Ims.evo{K:Fg}{L:List Addr}{H H':Hp}(e:Evo L H H')(hL:LL L H):∀ {vs:List V} {ts:List T},Ims K H vs ts->Ims K H' vs ts
 | _,[],h=>h
 | _,_::_,h=>by
  unfold Ims at h ⊢
  obtain⟨v,r,rfl,h1,h2⟩:=h
  exact⟨v,r,rfl,Im.evo e hL h1,Ims.evo e hL h2⟩
end
section
variable {K:Fg}{H H':Hp}
theorem Ims.nil:Ims K H [] []:=by unfold Ims; rfl
theorem Ims.cons{v:V}{vs:List V}{t:T}{ts:List T}(h:Im K H v t)(hs:Ims K H vs ts):Ims K H (v::vs) (t::ts):=by unfold Ims; exact⟨v,vs,rfl,h,hs⟩
theorem Ims.inv{vs:List V}{t:T}{ts:List T}(h:Ims K H vs (t::ts)):∃ v r,vs=v::r/\Im K H v t/\Ims K H r ts:=by unfold Ims at h; exact h
theorem Ims.inv0{vs:List V}(h:Ims K H vs []):vs=[]:=by unfold Ims at h; exact h
theorem Ims.len:∀ {vs:List V} {ts:List T},Ims K H vs ts->vs.length=ts.length
 | _,[],h=>by rw[h.inv0]; rfl
 | _,_::_,h=>by obtain⟨v,r,rfl,_,h2⟩:=h.inv; simp[h2.len]
theorem Ims.app:∀ {vs us:List V} {ts ss:List T},Ims K H vs ts->Ims K H us ss->Ims K H (vs++us) (ts++ss)
 | _,_,[],_,h,h'=>by rw[h.inv0]; exact h'
 | _,_,_::_,_,h,h'=>by obtain⟨v,r,rfl,h1,h2⟩:=h.inv; exact .cons h1 (h2.app h')
theorem Ims.one{v:V}{t:T}(h:Im K H v t):Ims K H [v] [t]:=.cons h .nil
theorem Ims.get:∀ {vs:List V} {ts:List T} {i:Nat} {t:T},Ims K H vs ts->ts[i]?=some t->∃ v,vs[i]?=some v/\Im K H v t
 | _,[],_,_,_,e=>by simp at e
 | _,_::_,0,_,h,e=>by obtain⟨v,r,rfl,h1,h2⟩:=h.inv; simp at e; subst e; exact⟨v,rfl,h1⟩
 | _,_::_,i+1,_,h,e=>by obtain⟨v,r,rfl,h1,h2⟩:=h.inv; simpa using h2.get (i:=i) (by simpa using e)
theorem Ims.take:∀ (n:Nat) {vs:List V} {ts:List T},Ims K H vs ts->Ims K H (vs.take n) (ts.take n)
 | 0,_,_,_=>by simp; exact .nil
 | _+1,_,[],h=>by rw[h.inv0]; exact .nil
 | n+1,_,_::_,h=>by obtain⟨v,r,rfl,h1,h2⟩:=h.inv; exact .cons h1 (h2.take n)
theorem Ims.drop:∀ (n:Nat) {vs:List V} {ts:List T},Ims K H vs ts->Ims K H (vs.drop n) (ts.drop n)
 | 0,_,_,h=>h
 | _+1,_,[],h=>by rw[h.inv0]; exact .nil
 | n+1,_,_::_,h=>by obtain⟨v,r,rfl,h1,h2⟩:=h.inv; exact h2.drop n
theorem Ims.set:∀ {vs:List V} {ts:List T} (i:Nat) {v:V} {t:T},Ims K H vs ts->Im K H v t->Ims K H (vs.set i v) (ts.set i t)
 | _,[],_,_,_,h,_=>by rw[h.inv0]; exact .nil
 | _,_::_,0,_,_,h,h'=>by obtain⟨v,r,rfl,h1,h2⟩:=h.inv; exact .cons h' h2
 | _,_::_,i+1,_,_,h,h'=>by obtain⟨v,r,rfl,h1,h2⟩:=h.inv; exact .cons h1 (h2.set i h')
theorem Ims.erase:∀ {vs:List V} {ts:List T} (i:Nat),Ims K H vs ts->Ims K H (vs.eraseIdx i) (ts.eraseIdx i)
 | _,[],_,h=>by rw[h.inv0]; exact .nil
 | _,_::_,0,h=>by obtain⟨v,r,rfl,h1,h2⟩:=h.inv; exact h2
 | _,_::_,i+1,h=>by obtain⟨v,r,rfl,h1,h2⟩:=h.inv; exact .cons h1 (h2.erase i)
theorem Ims.atoms:∀ (vs:List V),Ims K H vs (vs.map T.a)
 | []=>.nil
 | v::r=>.cons (by unfold Im; rfl) (Ims.atoms r)
theorem Ims.of_atoms:∀ {vs:List V} {us:List V},Ims K H vs (us.map T.a)->vs=us
 | _,[],h=>h.inv0
 | _,_::_,h=>by obtain⟨v,r,rfl,h1,h2⟩:=h.inv; unfold Im at h1; rw[h1,Ims.of_atoms h2]
theorem Im.atom{v:V}:Im K H v (.a v):=by unfold Im; rfl
theorem Im.tup{p:Addr}{vs:List V}{ts:List T}(h:H p=some (.tup vs))(hs:Ims K H vs ts):Im K H (.ref p) (.t ts):=by unfold Im; exact⟨p,vs,rfl,Tp.of h,hs⟩
theorem Im.inv{v:V}{ts:List T}(h:Im K H v (.t ts)):∃ p vs,v=.ref p/\Tp K H p vs/\Ims K H vs ts:=by unfold Im at h; exact h
theorem Im.invl{v:V}{ts:List T}(h:Im K H v (.l ts)):∃ p vs,v=.ref p/\KF K H p vs/\Ims K H vs ts:=by unfold Im at h; exact h
theorem Im.fn{v:V}{n:Str}(h:FOk K v n):Im K H v (.f n):=by unfold Im; exact h
theorem Im.invf{v:V}{n:Str}(h:Im K H v (.f n)):FOk K v n:=by unfold Im at h; exact h
theorem Im.exc{p:Addr}{c:Str}{fs:List (Str×V)}(h:XOk K H p c fs):Im K H (.ref p) (.x c fs):=by unfold Im; exact⟨p,rfl,h⟩
theorem Im.invx{v:V}{c:Str}{fs:List (Str×V)}(h:Im K H v (.x c fs)):∃ p,v=.ref p/\XOk K H p c fs:=by unfold Im at h; exact h
theorem Im.inva{v u:V}(h:Im K H v (.a u)):v=u:=by unfold Im at h; exact h
end
theorem KF.sq{K:Fg}{H:Hp}{p:Addr}{vs:List V}(h:KF K H p vs):SqL K H p vs:=by
 rcases h with h | h
 ·exact .inl (.inr h)
 ·exact .inr h
theorem KF.of{K:Fg}{H:Hp}{p:Addr}{vs:List V}(h:SqL K H p vs)(n:∀ us,H p≠some (.lst us)):KF K H p vs:=by
 rcases h with (h | h) | h
 ·exact absurd h (n vs)
 ·exact .inl h
 ·exact .inr h
def DOk(K:Fg)(H:Hp):HO->Dk->Prop
 | .dK l,.inl kvs=>Paired (fun (a:Key×V) (b:Key×T)=>a.1=b.1/\Im K H a.2 b.2) l kvs
 | .dT l,.inr kvs=>Paired (fun (a:List Key×V) (b:List Key×T)=>a.1=b.1/\Im K H a.2 b.2) l kvs
 | _,_=>False
theorem DOk.mu{K:Fg}{H:Hp}{o:HO}{kvs:Dk}(h:DOk K H o kvs):Mu o:=by
 unfold DOk at h
 split at h
 ·trivial
 ·trivial
 ·exact h.elim
theorem DOk.evo{K:Fg}{L:List Addr}{H H':Hp}{o:HO}{kvs:Dk}(e:Evo L H H')(hL:LL L H)(h:DOk K H o kvs):DOk K H' o kvs:=by
 unfold DOk at h ⊢
 split at h
 ·exact Paired.mapP h fun _ _ z=>⟨z.1,z.2.evo e hL⟩
 ·exact Paired.mapP h fun _ _ z=>⟨z.1,z.2.evo e hL⟩
 ·exact h.elim
def GOk(K:Fg)(w:W)(H:Hp)(v:V):G->Prop
 | .v t=>Im K H v t
 | .l xs=>∃ p vs,v=.ref p/\p∈w.L/\H p=some (.lst vs)/\Ims K H vs xs
 | .r xs=>∃ p vs,v=.ref p/\Ims K H vs xs/\H p=some (.lst vs)/\p∉w.L/\w.R p
 | .k xs=>∃ p vs,v=.ref p/\Ims K H vs xs/\KF K H p vs
 | .d kvs=>∃ p o,v=.ref p/\p∈w.L/\H p=some o/\DOk K H o kvs
 | .e kvs=>∃ p o,v=.ref p/\DOk K H o kvs/\H p=some o/\p∉w.L/\w.R p
theorem GOk.own{K:Fg}{w:W}{H:Hp}{v:V}{g:G}(m:isMut g=true)(h:GOk K w H v g):∃ p,v=.ref p/\p∈w.L:=by
 cases g with
 | l xs=>obtain⟨p,vs,e,m,_⟩:=h; exact⟨p,e,m⟩
 | d xs=>obtain⟨p,vs,e,m,_⟩:=h; exact⟨p,e,m⟩
 | v _=>cases m
 | r _=>cases m
 | k _=>cases m
 | e _=>cases m
def Ow(C:Fr)(p:Addr):Prop:=p∈C.fx\/C.H0 p=none
structure Rep(K:Fg)(C:Fr)(w:W)(Γ:En)(σ:St)(H:Hp):Prop where
 len:σ.length=Γ.length
 val:∀ (i:Nat) g,Γ[i]?=some (some g)->∃ v,σ[i]?=some (some v)/\GOk K w H v g
 apart:∀ (i j:Nat) p g g',isMut g=true->isMut g'=true->Γ[i]?=some (some g)->Γ[j]?=some (some g')->σ[i]?=some (some (.ref p))->σ[j]?=some (some (.ref p))->i=j
 lst:LL w.L H
 own:∀ p∈w.L,Ow C p
 ra:∀ p,w.R p->∃ o,H p=some o
 rl:∀ p,w.R p->p∉w.L
 frame:∀ b o,C.H0 b=some o->b∉C.fx->H b=some o
 pin:∀ q∈C.pins,σ[q.1]?=some (some (.ref q.2))/\∃ xs,Γ[q.1]?=some (some (.l xs))
def SOk(K:Fg)(C:Fr)(w:W)(σ:St)(H:Hp)(v:V):S->Prop
 | .v t=>Im K H v t
 | .l xs=>∃ p vs,v=.ref p/\p∉w.L/\¬ w.R p/\Ow C p/\H p=some (.lst vs)/\Ims K H vs xs
 | .s i=>σ[i]?=some (some v)
 | .d kvs=>∃ p o,v=.ref p/\p∉w.L/\¬ w.R p/\Ow C p/\H p=some o/\DOk K H o kvs
section
variable {K:Fg}{C:Fr}{w:W}{Γ Γ':En}{σ:St}{H H':Hp}
theorem GOk.evo{v:V}{g:G}(e:Evo w.L H H')(hL:LL w.L H)(hl:isMut g=false)(h:GOk K w H v g):GOk K w H' v g:=by
 cases g with
 | v t=>exact Im.evo e hL h
 | l xs=>cases hl
 | d xs=>cases hl
 | e kvs =>
  obtain⟨p,o,rfl,hi,h⟩:=h
  exact⟨p,o,rfl,hi.evo e hL,e _ _ h.1 h.2.1,h.2⟩
 | r xs =>
  obtain⟨p,vs,rfl,hi,h⟩:=h
  exact⟨p,vs,rfl,hi.evo e hL,e _ _ h.1 h.2.1,h.2⟩
 | k xs =>
  obtain⟨p,vs,rfl,hi,h⟩:=h
  exact⟨p,vs,rfl,hi.evo e hL,h.evo e hL⟩
theorem SOk.evo{v:V}{s:S}(e:Evo w.L H H')(hL:LL w.L H)(h:SOk K C w σ H v s):SOk K C w σ H' v s:=by
 cases s with
 | v t=>exact Im.evo e hL h
 | l xs =>
  obtain⟨p,vs,rfl,n1,n2,o,h1,h2⟩:=h
  exact⟨p,vs,rfl,n1,n2,o,e _ _ h1 n1,h2.evo e hL⟩
 | s i=>exact h
 | d kvs =>
  obtain⟨p,o,rfl,n1,n2,ow,h1,h2⟩:=h
  exact⟨p,o,rfl,n1,n2,ow,e _ _ h1 n1,h2.evo e hL⟩
theorem SOk.atom{v:V}:SOk K C w σ H v (.v (.a v)):=by show Im K H v (.a v); exact Im.atom
theorem SOk.inva{v u:V}(h:SOk K C w σ H v (.v (.a u))):v=u:=by
 have h':Im K H v (.a u):=h
 exact h'.inva
theorem SOk.invt{v:V}{ts:List T}(h:SOk K C w σ H v (.v (.t ts))):∃ p vs,v=.ref p/\Tp K H p vs/\Ims K H vs ts:=by
 have h':Im K H v (.t ts):=h
 exact h'.inv
theorem Rep.evo0(r:Rep K C w Γ σ H)(e:∀ b o,H b=some o->H' b=some o):Rep K C w Γ σ H' where
 len:=r.len
 val:=fun i g h=>by
  obtain⟨v,e1,e2⟩:=r.val i g h
  refine⟨v,e1,?_⟩
  cases g with
  | l xs =>
   obtain⟨p,vs,rfl,hp,h1,h2⟩:=e2
   exact⟨p,vs,rfl,hp,e _ _ h1,h2.evo (L:=w.L) (fun b o h _=>e b o h) r.lst⟩
  | d xs =>
   obtain⟨p,o,rfl,hp,h1,h2⟩:=e2
   exact⟨p,o,rfl,hp,e _ _ h1,h2.evo (L:=w.L) (fun b o h _=>e b o h) r.lst⟩
  | v t=>exact GOk.evo (fun b o h _=>e b o h) r.lst rfl e2
  | r xs=>exact GOk.evo (fun b o h _=>e b o h) r.lst rfl e2
  | k xs=>exact GOk.evo (fun b o h _=>e b o h) r.lst rfl e2
  | e xs=>exact GOk.evo (fun b o h _=>e b o h) r.lst rfl e2
 apart:=r.apart
 lst:=fun p hp=>by obtain⟨o,h,m⟩:=r.lst p hp; exact⟨o,e _ _ h,m⟩
 own:=r.own
 ra:=fun p hp=>by obtain⟨o,h⟩:=r.ra p hp; exact⟨o,e _ _ h⟩
 rl:=r.rl
 frame:=fun b o h n=>e _ _ (r.frame b o h n)
 pin:=r.pin
theorem Rep.same(r:Rep K C w Γ σ H)(e:Same H H'):Rep K C w Γ σ H':=r.evo0 e
theorem Rep.new{p:Addr}{o:HO}(r:Rep K C w Γ σ H)(h:H p=none):Rep K C w Γ σ (upd H p o):=r.evo0 fun b u e=>by rw[zAB (zAC e h)]; exact e
theorem Rep.fresh{p:Addr}(r:Rep K C w Γ σ H)(h:H p=none):p∉w.L/\¬ w.R p/\Ow C p:=by
 refine⟨fun z=>?_,fun z=>?_,?_⟩
 ·obtain⟨vs,e,_⟩:=r.lst p z; rw[h]at e; cases e
 ·obtain⟨o,e⟩:=r.ra p z; rw[h]at e; cases e
 ·by_cases q:p∈C.fx
  ·exact .inl q
  ·refine .inr ?_
   cases e:C.H0 p with
   | none=>rfl
   | some o=>rw[r.frame p o e q]at h; cases h
theorem Rep.newl{p:Addr}{vs:List V}{ts:List T}(r:Rep K C w Γ σ H)(h:H p=none)(hi:Ims K H vs ts):SOk K C w σ (upd H p (.lst vs)) (.ref p) (.l ts):=by
 obtain⟨a,b,c⟩:=r.fresh h
 exact⟨p,vs,rfl,a,b,c,zAF,hi.evo (Evo.new h) r.lst⟩
theorem Rep.newt{p:Addr}{vs:List V}{ts:List T}(r:Rep K C w Γ σ H)(h:H p=none)(hi:Ims K H vs ts):SOk K C w σ (upd H p (.tup vs)) (.ref p) (.v (.t ts)):=by
 exact Im.tup zAF (hi.evo (L:=w.L) (Evo.new h) r.lst)
theorem Rep.put3{i:Nat}{p:Addr}{g0 g1:G}{ob:HO}(r:Rep K C w Γ σ H)(m0:isMut g0=true)(m1:isMut g1=true)(hpin:∀ xs,g0=.l xs->∃ ys,g1=.l ys)(hi:Γ[i]?=some (some g0))(hp:σ[i]?=some (some (.ref p)))(ev1:Evo [p] H H')(hp':H' p=some ob)(mb:Mu ob)(hq:p∈w.L)(hu:GOk K w H' (.ref p) g1) :
  Rep K C w (Γ.set i (some g1)) σ H'/\Evo w.L H H':=by
 have hiΓ:i < Γ.length:=(List.getElem?_eq_some_iff.mp hi).1
 have ev:Evo w.L H H':=ev1.wide fun q hq'=>List.mem_singleton.mp hq' ▸ hq
 have ne:∀ {c:Addr} {o:HO},c≠p->H c=some o->H' c=some o:=fun n e=>ev1 _ _ e fun z=>n (List.mem_singleton.mp z)
 refine⟨⟨by simpa using r.len,fun j g h=>?_,fun j k c g g' mg mg' h1 h2 h3 h4=>?_,fun c hc=>?_,r.own,fun c hc=>?_,r.rl,fun b o h n=>?_,fun c hc=>?_⟩,ev⟩
 ·by_cases hj:j=i
  ·subst hj
   rw[List.getElem?_set_self hiΓ]at h
   cases h
   exact⟨_,hp,hu⟩
  ·rw[List.getElem?_set_ne (Ne.symm hj)]at h
   obtain⟨v,e1,e2⟩:=r.val j g h
   refine⟨v,e1,?_⟩
   cases g with
   | l zs =>
    obtain⟨c,vs',rfl,hc,h1,h2⟩:=e2
    have:c≠p:=fun z=>hj (r.apart j i p _ _ rfl m0 h hi (z ▸ e1) hp)
    exact⟨c,vs',rfl,hc,ne this h1,h2.evo ev r.lst⟩
   | d zs =>
    obtain⟨c,vs',rfl,hc,h1,h2⟩:=e2
    have:c≠p:=fun z=>hj (r.apart j i p _ _ rfl m0 h hi (z ▸ e1) hp)
    exact⟨c,vs',rfl,hc,ne this h1,h2.evo ev r.lst⟩
   | v t=>exact GOk.evo ev r.lst rfl e2
   | r zs=>exact GOk.evo ev r.lst rfl e2
   | k zs=>exact GOk.evo ev r.lst rfl e2
   | e zs=>exact GOk.evo ev r.lst rfl e2
 ·have back:∀ (m:Nat) (g:G),isMut g=true->(Γ.set i (some g1))[m]?=some (some g)->∃ g',isMut g'=true/\Γ[m]?=some (some g'):=fun m g mg h=>by
   by_cases hm:m=i
   ·subst hm; exact⟨g0,m0,hi⟩
   ·rw[List.getElem?_set_ne (Ne.symm hm)]at h; exact⟨g,mg,h⟩
  obtain⟨z1,y1,g1⟩:=back j g mg h1
  obtain⟨z2,y2,g2⟩:=back k g' mg' h2
  exact r.apart j k c z1 z2 y1 y2 g1 g2 h3 h4
 ·by_cases hcp:c=p
  ·subst hcp; exact⟨ob,hp',mb⟩
  ·obtain⟨o,e,m⟩:=r.lst c hc; exact⟨o,ne hcp e,m⟩
 ·have:c≠p:=fun z=>r.rl c hc (z ▸ hq)
  obtain⟨o,e⟩:=r.ra c hc
  exact⟨o,ne this e⟩
 ·by_cases hb:b=p
  ·subst hb
   rcases r.own b hq with z | z
   ·exact absurd z n
   ·rw[z]at h; cases h
  ·exact ne hb (r.frame b o h n)
 ·obtain⟨h1,zs,h2⟩:=r.pin c hc
  refine⟨h1,?_⟩
  by_cases hm:c.1=i
  ·rw[hm,hi]at h2
   cases h2
   obtain⟨ys,e⟩:=hpin zs rfl
   exact⟨ys,by rw[hm,List.getElem?_set_self hiΓ,e]⟩
  ·exact⟨zs,by rw[List.getElem?_set_ne (Ne.symm hm)]; exact h2⟩
theorem Rep.put2{i:Nat}{p:Addr}{xs ys:List T}{us:List V}(r:Rep K C w Γ σ H)(hi:Γ[i]?=some (some (.l xs)))(hp:σ[i]?=some (some (.ref p)))(ev1:Evo [p] H H')(hp':H' p=some (.lst us))(hu:Ims K H' us ys) :
  Rep K C w (Γ.set i (some (.l ys))) σ H'/\Evo w.L H H':=by
 obtain⟨v,e1,q,vs,rfl,hq,hv,_⟩:=r.val i _ hi
 rw[hp]at e1; cases e1
 exact r.put3 rfl rfl (fun _ _=>⟨ys,rfl⟩) hi hp ev1 hp' trivial hq ⟨p,us,rfl,hq,hp',hu⟩
theorem Rep.put{i:Nat}{p:Addr}{xs ys:List T}{us:List V}(r:Rep K C w Γ σ H)(hi:Γ[i]?=some (some (.l xs)))(hp:σ[i]?=some (some (.ref p)))(hu:Ims K H us ys) :
  Rep K C w (Γ.set i (some (.l ys))) σ (upd H p (.lst us))/\Evo w.L H (upd H p (.lst us)):=by
 obtain⟨v,e1,q,vs,rfl,hq,hv,_⟩:=r.val i _ hi
 rw[hp]at e1; cases e1
 have ev1:Evo [p] H (upd H p (.lst us)):=fun b o e n=>by rw[zAB (show b≠p from fun z=>n (List.mem_singleton.mpr z))]; exact e
 exact r.put2 hi hp ev1 zAF (hu.evo (ev1.wide fun q hq'=>List.mem_singleton.mp hq' ▸ hq) r.lst)
theorem Rep.temp{p:Addr}(r:Rep K C w Γ σ H)(n1:p∉w.L)(n2:¬ w.R p)(ow:Ow C p)(hl:∃ o,H p=some o/\Mu o)(ev1:Evo [p] H H'):Rep K C w Γ σ H':=by
 have ne:∀ {c:Addr} {o:HO},c≠p->H c=some o->H' c=some o:=fun n e=>ev1 _ _ e fun z=>n (List.mem_singleton.mp z)
 have hL:LL [p] H:=fun q hq=>by rw[List.mem_singleton.mp hq]; exact hl
 refine⟨r.len,fun j g h=>?_,r.apart,fun c hc=>?_,r.own,fun c hc=>?_,r.rl,fun b o h n=>?_,r.pin⟩
 ·obtain⟨v,e1,e2⟩:=r.val j g h
  refine⟨v,e1,?_⟩
  cases g with
  | v t=>exact Im.evo ev1 hL e2
  | l zs =>
   obtain⟨c,vs',rfl,hc,h1,h2⟩:=e2
   exact⟨c,vs',rfl,hc,ne (fun z=>n1 (z ▸ hc)) h1,h2.evo ev1 hL⟩
  | r zs =>
   obtain⟨c,vs',rfl,h1,h2⟩:=e2
   exact⟨c,vs',rfl,h1.evo ev1 hL,ne (fun z=>n2 (z ▸ h2.2.2)) h2.1,h2.2⟩
  | k zs =>
   obtain⟨c,vs',rfl,h1,h2⟩:=e2
   exact⟨c,vs',rfl,h1.evo ev1 hL,h2.evo ev1 hL⟩
  | d zs =>
   obtain⟨c,vs',rfl,hc,h1,h2⟩:=e2
   exact⟨c,vs',rfl,hc,ne (fun z=>n1 (z ▸ hc)) h1,h2.evo ev1 hL⟩
  | e zs =>
   obtain⟨c,vs',rfl,h1,h2⟩:=e2
   exact⟨c,vs',rfl,h1.evo ev1 hL,ne (fun z=>n2 (z ▸ h2.2.2)) h2.1,h2.2⟩
 ·obtain⟨o,e,m⟩:=r.lst c hc; exact⟨o,ne (fun z=>n1 (z ▸ hc)) e,m⟩
 ·obtain⟨o,e⟩:=r.ra c hc; exact⟨o,ne (fun z=>n2 (z ▸ hc)) e⟩
 ·by_cases hb:b=p
  ·subst hb
   rcases ow with z | z
   ·exact absurd z n
   ·rw[z]at h; cases h
  ·exact ne hb (r.frame b o h n)
theorem Rep.setv{i:Nat}{v:V}{g:G}(r:Rep K C w Γ σ H)(hg:isMut g=false)(h:GOk K w H v g)(hn:∀ q∈C.pins,q.1≠i):Rep K C w (Γ.set i (some g)) (σ.set i (some v)) H where
 len:=by simpa using r.len
 val:=fun j g' hj=>by
  by_cases hji:j=i
  ·subst hji
   have hjl:j < Γ.length:=by
    rcases Nat.lt_or_ge j Γ.length with z | z
    ·exact z
    ·rw[List.getElem?_eq_none (by simpa using z)]at hj; cases hj
   rw[List.getElem?_set_self hjl]at hj
   cases hj
   exact⟨v,by rw[List.getElem?_set_self (by rw[r.len]; exact hjl)],h⟩
  ·rw[List.getElem?_set_ne (Ne.symm hji)]at hj
   rw[List.getElem?_set_ne (Ne.symm hji)]
   exact r.val j g' hj
 apart:=fun j k p ga gb ma mb h1 h2 h3 h4=>by
  have ne:∀ (m:Nat) (gc:G),isMut gc=true->(Γ.set i (some g))[m]?=some (some gc)->m≠i/\Γ[m]?=some (some gc):=fun m gc mc hm=>by
   by_cases e:m=i
   ·subst e
    rcases Nat.lt_or_ge m Γ.length with z | z
    ·rw[List.getElem?_set_self z]at hm; cases hm; rw[hg]at mc; cases mc
    ·rw[List.getElem?_eq_none (by simpa using z)]at hm; cases hm
   ·rw[List.getElem?_set_ne (Ne.symm e)]at hm; exact⟨e,hm⟩
  obtain⟨n1,g1⟩:=ne j ga ma h1
  obtain⟨n2,g2⟩:=ne k gb mb h2
  rw[List.getElem?_set_ne (Ne.symm n1)]at h3
  rw[List.getElem?_set_ne (Ne.symm n2)]at h4
  exact r.apart j k p ga gb ma mb g1 g2 h3 h4
 lst:=r.lst
 own:=r.own
 ra:=r.ra
 rl:=r.rl
 frame:=r.frame
 pin:=fun q hq=>by
  obtain⟨h1,xs,h2⟩:=r.pin q hq
  have:=hn q hq
  exact⟨by rw[List.getElem?_set_ne (Ne.symm this)]; exact h1,xs,by rw[List.getElem?_set_ne (Ne.symm this)]; exact h2⟩
theorem Rep.setm{i:Nat}{p:Addr}{ob:HO}{g:G}(r:Rep K C w Γ σ H)(mg:isMut g=true)(n1:p∉w.L)(n2:¬ w.R p)(ow:Ow C p)(hp:H p=some ob)(mb:Mu ob)(hv:GOk K ⟨p::w.L,w.R⟩ H (.ref p) g)(hn:∀ q∈C.pins,q.1≠i) :
  Rep K C ⟨p::w.L,w.R⟩ (Γ.set i (some g)) (σ.set i (some (.ref p))) H where
 len:=by simpa using r.len
 val:=fun j g' hj=>by
  by_cases hji:j=i
  ·subst hji
   have hjl:j < Γ.length:=by
    rcases Nat.lt_or_ge j Γ.length with z | z
    ·exact z
    ·rw[List.getElem?_eq_none (by simpa using z)]at hj; cases hj
   rw[List.getElem?_set_self hjl]at hj
   cases hj
   exact⟨_,by rw[List.getElem?_set_self (by rw[r.len]; exact hjl)],hv⟩
  ·rw[List.getElem?_set_ne (Ne.symm hji)]at hj
   rw[List.getElem?_set_ne (Ne.symm hji)]
   obtain⟨v,e1,e2⟩:=r.val j g' hj
   refine⟨v,e1,?_⟩
   cases g' with
   | v t=>exact e2
   | l ys=>obtain⟨c,us,rfl,hc,h1,h2⟩:=e2; exact⟨c,us,rfl,List.mem_cons_of_mem _ hc,h1,h2⟩
   | d ys=>obtain⟨c,us,rfl,hc,h1,h2⟩:=e2; exact⟨c,us,rfl,List.mem_cons_of_mem _ hc,h1,h2⟩
   | r ys =>
    obtain⟨c,us,rfl,hi,h⟩:=e2
    refine⟨c,us,rfl,hi,h.1,fun z=>?_,h.2.2⟩
    rcases List.mem_cons.mp z with z | z
    ·exact n2 (z ▸ h.2.2)
    ·exact h.2.1 z
   | e ys =>
    obtain⟨c,us,rfl,hi,h⟩:=e2
    refine⟨c,us,rfl,hi,h.1,fun z=>?_,h.2.2⟩
    rcases List.mem_cons.mp z with z | z
    ·exact n2 (z ▸ h.2.2)
    ·exact h.2.1 z
   | k ys=>exact e2
 apart:=fun j k c ga gb ma mb' h1 h2 h3 h4=>by
  have ne:∀ (m:Nat) (gc:G),isMut gc=true->m≠i->(Γ.set i (some g))[m]?=some (some gc)->(σ.set i (some (.ref p)))[m]?=some (some (.ref c))->Γ[m]?=some (some gc)/\σ[m]?=some (some (.ref c))/\c≠p:=fun m gc mc e h h'=>by
   rw[List.getElem?_set_ne (Ne.symm e)]at h
   rw[List.getElem?_set_ne (Ne.symm e)]at h'
   refine⟨h,h',fun z=>?_⟩
   obtain⟨v,e1,hg⟩:=r.val m _ h
   obtain⟨q,rfl,hq⟩:=hg.own mc
   rw[h']at e1; cases e1
   exact n1 (z ▸ hq)
  have at_i:∀ (m:Nat),m=i->(σ.set i (some (.ref p)))[m]?=some (some (.ref c))->c=p:=fun m e h=>by
   subst e
   rcases Nat.lt_or_ge m σ.length with z | z
   ·rw[List.getElem?_set_self z]at h; cases h; rfl
   ·rw[List.getElem?_eq_none (by simpa using z)]at h; cases h
  by_cases e1:j=i
  ·by_cases e2:k=i
   ·rw[e1,e2]
   ·obtain⟨_,_,n⟩:=ne k gb mb' e2 h2 h4
    exact absurd (at_i j e1 h3) n
  ·obtain⟨g1,s1,n⟩:=ne j ga ma e1 h1 h3
   by_cases e2:k=i
   ·exact absurd (at_i k e2 h4) n
   ·obtain⟨g2,s2,_⟩:=ne k gb mb' e2 h2 h4
    exact r.apart j k c ga gb ma mb' g1 g2 s1 s2
 lst:=fun c hc=>by
  rcases List.mem_cons.mp hc with e | e
  ·subst e; exact⟨ob,hp,mb⟩
  ·exact r.lst c e
 own:=fun c hc=>by
  rcases List.mem_cons.mp hc with e | e
  ·subst e; exact ow
  ·exact r.own c e
 ra:=r.ra
 rl:=fun c hc z=>by
  rcases List.mem_cons.mp z with e | e
  ·subst e; exact n2 hc
  ·exact r.rl c hc e
 frame:=r.frame
 pin:=fun q hq=>by
  obtain⟨h1,xs',h2⟩:=r.pin q hq
  have:=hn q hq
  exact⟨by rw[List.getElem?_set_ne (Ne.symm this)]; exact h1,xs',by rw[List.getElem?_set_ne (Ne.symm this)]; exact h2⟩
theorem Rep.setl{i:Nat}{p:Addr}{vs:List V}{xs:List T}(r:Rep K C w Γ σ H)(n1:p∉w.L)(n2:¬ w.R p)(ow:Ow C p)(hp:H p=some (.lst vs))(hv:Ims K H vs xs)(hn:∀ q∈C.pins,q.1≠i) :
  Rep K C ⟨p::w.L,w.R⟩ (Γ.set i (some (.l xs))) (σ.set i (some (.ref p))) H :=
 r.setm rfl n1 n2 ow hp trivial ⟨p,vs,rfl,List.mem_cons_self,hp,hv⟩ hn
theorem Rep.setd{i:Nat}{p:Addr}{ob:HO}{kvs:Dk}(r:Rep K C w Γ σ H)(n1:p∉w.L)(n2:¬ w.R p)(ow:Ow C p)(hp:H p=some ob)(hv:DOk K H ob kvs)(hn:∀ q∈C.pins,q.1≠i) :
  Rep K C ⟨p::w.L,w.R⟩ (Γ.set i (some (.d kvs))) (σ.set i (some (.ref p))) H :=
 r.setm rfl n1 n2 ow hp hv.mu ⟨p,ob,rfl,List.mem_cons_self,hp,hv⟩ hn
end
def SOks(K:Fg)(C:Fr)(w:W)(σ:St)(H:Hp):List V->List S->Prop
 | [],[]=>True
 | v::vs,s::ss=>SOk K C w σ H v s/\SOks K C w σ H vs ss
 | _,_=>False
def Nw(H:Hp)(v:V):S->Prop
 | .l _=>∃ p,v=.ref p/\H p=none
 | .d _=>∃ p,v=.ref p/\H p=none
 | _=>True
def Nws(H:Hp):List V->List S->Prop
 | v::vs,s::ss=>Nw H v s/\Nws H vs ss
 | _,_=>True
theorem zAK{L:List Addr}{H H':Hp}{p:Addr}(e:Evo L H H')(hL:LL L H')(h:H' p=none):H p=none:=by
 cases q:H p with
 | none=>rfl
 | some o =>
  by_cases z:p∈L
  ·obtain⟨vs,u,_⟩:=hL p z; rw[h]at u; cases u
  ·rw[e p o q z]at h; cases h
theorem Nw.back{L:List Addr}{H H':Hp}{v:V}{s:S}(n:Nw H' v s)(e:Evo L H H')(hL:LL L H'):Nw H v s:=by
 cases s with
 | l xs=>obtain⟨p,a,b⟩:=n; exact⟨p,a,zAK e hL b⟩
 | d xs=>obtain⟨p,a,b⟩:=n; exact⟨p,a,zAK e hL b⟩
 | v t=>trivial
 | s i=>trivial
theorem Nws.back{L:List Addr}{H H':Hp}(e:Evo L H H')(hL:LL L H'):∀ {vs:List V} {ss:List S},Nws H' vs ss->Nws H vs ss
 | [],[],_=>trivial
 | [],_::_,_=>trivial
 | _::_,[],_=>trivial
 | _::_,_::_,h=>⟨h.1.back e hL,Nws.back e hL h.2⟩
theorem Nws.get{H:Hp}:∀ {vs:List V} {ss:List S} {k:Nat} {v:V} {s:S},Nws H vs ss->vs[k]?=some v->ss[k]?=some s->Nw H v s
 | [],_,_,_,_,_,e,_=>by simp at e
 | _::_,[],_,_,_,_,_,e=>by simp at e
 | _::_,_::_,0,_,_,h,e,e'=>by simp at e e'; subst e e'; exact h.1
 | _::_,_::_,k+1,_,_,h,e,e'=>Nws.get (k:=k) h.2 (by simpa using e) (by simpa using e')
def SimE(K:Fg)(te:TE)(f:DE):Prop:=∀ (C:Fr) (w:W) (Γ:En) (σ:St) (H:Hp) (s:S) (Γ':En) (Q:VK),Rep K C w Γ σ H->f Γ=some (s,Γ') ->
 (∀ v H',Rep K C w Γ' σ H'->Evo w.L H H'->SOk K C w σ H' v s->Nw H v s->Q v H')->te σ H Q
def SimT(K:Fg)(tt:TT)(f:DT):Prop:=∀ (C:Fr) (w:W) (Γ:En) (σ:St) (H:Hp) (b:Bool) (Γ':En) (Q:Bool->Hp->Prop),Rep K C w Γ σ H->f Γ=some (b,Γ') ->
 (∀ H',Rep K C w Γ' σ H'->Evo w.L H H'->Q b H')->tt σ H Q
def SimA(K:Fg)(ta:TA)(f:DA):Prop:=∀ (C:Fr) (w:W) (Γ:En) (σ:St) (H:Hp) (ss:List S) (Γ':En) (Q:List V->Hp->Prop),Rep K C w Γ σ H->f Γ=some (ss,Γ') ->
 (∀ vs H',Rep K C w Γ' σ H'->Evo w.L H H'->SOks K C w σ H' vs ss->Nws H vs ss->Q vs H')->ta σ H Q
def OkO(K:Fg)(C:Fr)(D:Ends):O->Prop
 | .nx Γ=>∀ w σ H,Rep K C w Γ σ H->D.nx σ H
 | .rt s Γ=>∀ w σ H v,Rep K C w Γ σ H->SOk K C w σ H v s->D.rt v H
 | .bk Γ=>∀ w σ H,Rep K C w Γ σ H->D.bk σ H
 | .ct Γ=>∀ w σ H,Rep K C w Γ σ H->D.ct σ H
def SimS(K:Fg)(ip:Option Nat)(ts:TS)(g:DS):Prop:=∀ (C:Fr) (w:W) (Γ:En) (σ:St) (H:Hp) (D:Ends) (o:O),C.pins.map (·.1)=ip.toList->Rep K C w Γ σ H->g Γ=some o->OkO K C D o->ts D σ H
def SimR2(K:Fg)(r:R2)(h:En->S->S->Option S):Prop:=∀ (C:Fr) (w:W) (Γ:En) (σ:St) (H:Hp) (x y:V) (a b s:S) (Q:VK),Rep K C w Γ σ H->SOk K C w σ H x a->SOk K C w σ H y b->h Γ a b=some s ->
 (∀ v H',Rep K C w Γ σ H'->Evo w.L H H'->SOk K C w σ H' v s->Nw H v s->Q v H')->r x y H Q
def SimR1(K:Fg)(r:V->Hp->VK->Prop)(h:En->S->Option S):Prop:=∀ (C:Fr) (w:W) (Γ:En) (σ:St) (H:Hp) (x:V) (a s:S) (Q:VK),Rep K C w Γ σ H->SOk K C w σ H x a->h Γ a=some s ->
 (∀ v H',Rep K C w Γ σ H'->Evo w.L H H'->SOk K C w σ H' v s->Nw H v s->Q v H')->r x H Q
def SimRs(K:Fg)(r:List V->Hp->VK->Prop)(h:En->List S->Option S):Prop:=∀ (C:Fr) (w:W) (Γ:En) (σ:St) (H:Hp) (xs:List V) (as:List S) (s:S) (Q:VK),Rep K C w Γ σ H->SOks K C w σ H xs as->h Γ as=some s ->
 (∀ v H',Rep K C w Γ σ H'->Evo w.L H H'->SOk K C w σ H' v s->Nw H v s->Q v H')->r xs H Q
def jV(i:Nat):DE:=fun Γ=>match Γ[i]? with
 | some (some (.v t))=>some (.v t,Γ)
 | some (some (.l _))=>some (.s i,Γ)
 | some (some (.r _))=>some (.s i,Γ)
 | some (some (.k _))=>some (.s i,Γ)
 | some (some (.d _))=>some (.s i,Γ)
 | some (some (.e _))=>some (.s i,Γ)
 | _=>none
def dC(v:V):DE:=fun Γ=>some (.v (.a v),Γ)
def dOp(h:En->S->S->Option S)(fa fb:DE):DE:=fun Γ=>(fa Γ).bind fun p=>(fb p.2).bind fun q=>(h q.2 p.1 q.1).map fun s=>(s,q.2)
def dUn(h:En->S->Option S)(fa:DE):DE:=fun Γ=>(fa Γ).bind fun p=>(h p.2 p.1).map fun s=>(s,p.2)
def dCB(h:En->List S->Option S)(fa:DA):DE:=fun Γ=>(fa Γ).bind fun p=>(h p.2 p.1).map fun s=>(s,p.2)
def qQ:DA:=fun Γ=>some ([],Γ)
def jW(fa:DE)(fr:DA):DA:=fun Γ=>(fa Γ).bind fun p=>(fr p.2).bind fun q=>some (p.1::q.1,q.2)
def S.tree:S->Option T
 | .v t=>some t
 | _=>none
def trees:List S->Option (List T)
 | []=>some []
 | s::r=>s.tree.bind fun t=>(trees r).map fun ts=>t::ts
def gd{α:Type}(n:Nat)(x:α):Option α:=if n<=sizeLine then some x else none
theorem zAZ{α:Type}{n:Nat}{x y:α}(h:gd n x=some y):n<=sizeLine/\x=y:=by
 unfold gd at h; split at h
 ·exact⟨by assumption,Option.some.inj h⟩
 ·cases h
def dTup(fa:DA):DE:=fun Γ=>(fa Γ).bind fun p=>(trees p.1).bind fun ts=>gd ts.length (.v (.t ts),p.2)
def dLst(fa:DA):DE:=fun Γ=>(fa Γ).bind fun p=>(trees p.1).bind fun ts=>gd ts.length (.l ts,p.2)
def dTest(f:DE):DT:=fun Γ=>(f Γ).bind fun p=>match p.1 with
 | .v (.a (.bl b))=>some (b,p.2)
 | _=>none
def dAnd(f g:DT):DT:=fun Γ=>(f Γ).bind fun p=>if p.1=true then g p.2 else some (false,p.2)
def dOr(f g:DT):DT:=fun Γ=>(f Γ).bind fun p=>if p.1=true then some (true,p.2) else g p.2
def dNot(f:DT):DT:=fun Γ=>(f Γ).bind fun p=>some (!p.1,p.2)
def dAndV(f g:DE):DE:=fun Γ=>(dTest f Γ).bind fun p=>if p.1=true then g p.2 else some (.v (.a (.bl false)),p.2)
def dOrV(f g:DE):DE:=fun Γ=>(dTest f Γ).bind fun p=>if p.1=true then some (.v (.a (.bl true)),p.2) else g p.2
def dNotV(f:DE):DE:=fun Γ=>(dTest f Γ).bind fun p=>some (.v (.a (.bl !p.1)),p.2)
def dIfE(c:DT)(f g:DE):DE:=fun Γ=>(c Γ).bind fun p=>if p.1=true then f p.2 else g p.2
def dChain(h h':En->S->S->Option S)(fa fb fc:DE):DE:=fun Γ=>(fa Γ).bind fun p=>(fb p.2).bind fun q=>(h q.2 p.1 q.1).bind fun z=>match z with
 | .v (.a (.bl k))=>if k=true then (fc q.2).bind fun u=>(h' u.2 q.1 u.1).map fun s=>(s,u.2) else some (.v (.a (.bl false)),q.2)
 | _=>none
section
variable {K:Fg}{ip:Option Nat}
theorem bind_some{α β:Type}{x:Option α}{f:α->Option β}{y:β}(h:x.bind f=some y):∃ a,x=some a/\f a=some y:=by
 cases x with
 | none=>cases h
 | some a=>exact⟨a,rfl,h⟩
theorem zAA{α β:Type}{x:Option α}{f:α->β}{y:β}(h:x.map f=some y):∃ a,x=some a/\f a=y:=by
 cases x with
 | none=>cases h
 | some a=>exact⟨a,rfl,Option.some.inj h⟩
theorem zIl{i:Nat}:SimE K (tVar i) (jV i):=by
 intro C w Γ σ H s Γ' Q R h k
 unfold jV at h
 split at h
 ·rename_i t e
  cases h
  obtain⟨v,e1,e2⟩:=R.val i _ e
  exact⟨v,e1,k v H R .refl e2 trivial⟩
 ·rename_i xs e
  cases h
  obtain⟨v,e1,e2⟩:=R.val i _ e
  exact⟨v,e1,k v H R .refl e1 trivial⟩
 ·rename_i xs e
  cases h
  obtain⟨v,e1,e2⟩:=R.val i _ e
  exact⟨v,e1,k v H R .refl e1 trivial⟩
 ·rename_i xs e
  cases h
  obtain⟨v,e1,e2⟩:=R.val i _ e
  exact⟨v,e1,k v H R .refl e1 trivial⟩
 ·rename_i xs e
  cases h
  obtain⟨v,e1,e2⟩:=R.val i _ e
  exact⟨v,e1,k v H R .refl e1 trivial⟩
 ·rename_i xs e
  cases h
  obtain⟨v,e1,e2⟩:=R.val i _ e
  exact⟨v,e1,k v H R .refl e1 trivial⟩
 ·cases h
theorem zCL{v:V}:SimE K (tC v) (dC v):=by
 intro C w Γ σ H s Γ' Q R h k
 cases h
 exact k v H R .refl SOk.atom trivial
theorem zB8{r:R2}{h:En->S->S->Option S}{ta tb:TE}{fa fb:DE}(hr:SimR2 K r h)(ha:SimE K ta fa)(hb:SimE K tb fb):SimE K (tOp r ta tb) (dOp h fa fb):=by
 intro C w Γ σ H s Γ' Q R e k
 obtain⟨p,e1,e⟩:=bind_some e
 obtain⟨q,e2,e⟩:=bind_some e
 obtain⟨z,e3,e⟩:=zAA e
 cases e
 refine ha C w Γ σ H p.1 p.2 _ R e1 fun v1 H1 R1 ev1 o1 n1=>?_
 refine hb C w p.2 σ H1 q.1 q.2 _ R1 e2 fun v2 H2 R2 ev2 o2 n2=>?_
 exact hr C w q.2 σ H2 v1 v2 _ _ _ Q R2 (o1.evo ev2 R1.lst) o2 e3 fun v H3 R3 ev3 o3 n3=>k v H3 R3 ((ev1.trans ev2).trans ev3) o3 (n3.back (ev1.trans ev2) R2.lst)
theorem zJA{r:V->Hp->VK->Prop}{h:En->S->Option S}{ta:TE}{fa:DE}(hr:SimR1 K r h)(ha:SimE K ta fa):SimE K (tUn r ta) (dUn h fa):=by
 intro C w Γ σ H s Γ' Q R e k
 obtain⟨p,e1,e⟩:=bind_some e
 obtain⟨z,e3,e⟩:=zAA e
 cases e
 refine ha C w Γ σ H p.1 p.2 _ R e1 fun v1 H1 R1 ev1 o1 n1=>?_
 exact hr C w p.2 σ H1 v1 _ _ Q R1 o1 e3 fun v H3 R3 ev3 o3 n3=>k v H3 R3 (ev1.trans ev3) o3 (n3.back ev1 R1.lst)
theorem zDR{r:List V->Hp->VK->Prop}{h:En->List S->Option S}{ta:TA}{fa:DA}(hr:SimRs K r h)(ha:SimA K ta fa):SimE K (tCB r ta) (dCB h fa):=by
 intro C w Γ σ H s Γ' Q R e k
 obtain⟨p,e1,e⟩:=bind_some e
 obtain⟨z,e3,e⟩:=zAA e
 cases e
 refine ha C w Γ σ H p.1 p.2 _ R e1 fun v1 H1 R1 ev1 o1 n1=>?_
 exact hr C w p.2 σ H1 v1 _ _ Q R1 o1 e3 fun v H3 R3 ev3 o3 n3=>k v H3 R3 (ev1.trans ev3) o3 (n3.back ev1 R1.lst)
theorem zEp:SimA K tNil qQ:=by
 intro C w Γ σ H s Γ' Q R e k
 cases e
 exact k [] H R .refl trivial trivial
theorem zHu{ta:TE}{tr:TA}{fa:DE}{fr:DA}(ha:SimE K ta fa)(hr:SimA K tr fr):SimA K (tCons ta tr) (jW fa fr):=by
 intro C w Γ σ H s Γ' Q R e k
 obtain⟨p,e1,e⟩:=bind_some e
 obtain⟨q,e2,e⟩:=bind_some e
 cases e
 refine ha C w Γ σ H p.1 p.2 _ R e1 fun v1 H1 R1 ev1 o1 n1=>?_
 exact hr C w p.2 σ H1 q.1 q.2 _ R1 e2 fun vs H2 R2 ev2 o2 n2=>k (v1::vs) H2 R2 (ev1.trans ev2) ⟨o1.evo ev2 R1.lst,o2⟩ ⟨n1,n2.back ev1 R1.lst⟩
theorem zBF{C:Fr}{w:W}{σ:St}{H:Hp}:∀ {vs:List V} {ss:List S} {ts:List T},SOks K C w σ H vs ss->trees ss=some ts->Ims K H vs ts
 | [],[],_,_,e=>by cases e; exact .nil
 | v::vs,s::ss,_,h,e=>by
  obtain⟨t,e1,e⟩:=bind_some e
  obtain⟨ts,e2,e⟩:=zAA e
  cases e
  cases s with
  | v t'=>cases e1; exact .cons h.1 (zBF h.2 e2)
  | l _=>cases e1
  | s _=>cases e1
  | d _=>cases e1
 | [],_::_,_,h,_=>h.elim
 | _::_,[],_,h,_=>h.elim
theorem zIw{ta:TA}{fa:DA}(ha:SimA K ta fa):SimE K (tTup ta) (dTup fa):=by
 intro C w Γ σ H s Γ' Q R e k
 obtain⟨p,e1,e⟩:=bind_some e
 obtain⟨ts,e2,e⟩:=bind_some e
 obtain⟨hn,e⟩:=zAZ e
 cases e
 refine ha C w Γ σ H p.1 p.2 _ R e1 fun vs H1 R1 ev1 o1 _=>?_
 have hi:=zBF o1 e2
 exact⟨by rw[hi.len]; exact hn,fun q hq=>k _ _ (R1.new hq) (ev1.trans (Evo.new hq)) (R1.newt hq hi) trivial⟩
theorem zI0{ta:TA}{fa:DA}(ha:SimA K ta fa):SimE K (tLst ta) (dLst fa):=by
 intro C w Γ σ H s Γ' Q R e k
 obtain⟨p,e1,e⟩:=bind_some e
 obtain⟨ts,e2,e⟩:=bind_some e
 obtain⟨hn,e⟩:=zAZ e
 cases e
 refine ha C w Γ σ H p.1 p.2 _ R e1 fun vs H1 R1 ev1 o1 _=>?_
 have hi:=zBF o1 e2
 exact⟨by rw[hi.len]; exact hn,fun q hq=>k _ _ (R1.new hq) (ev1.trans (Evo.new hq)) (R1.newl hq hi) ⟨_,rfl,zAK ev1 R1.lst hq⟩⟩
theorem zDa{ta:TE}{fa:DE}(ha:SimE K ta fa):SimT K (tTest ta) (dTest fa):=by
 intro C w Γ σ H s Γ' Q R e k
 obtain⟨p,e1,e⟩:=bind_some e
 obtain⟨p1,p2⟩:=p
 dsimp only at e
 split at e
 ·cases e
  refine ha C w Γ σ H _ _ _ R e1 fun v H1 R1 ev1 o1 _=>?_
  exact⟨_,SOk.inva o1,k H1 R1 ev1⟩
 ·cases e
theorem zIb{ta tb:TT}{fa fb:DT}(ha:SimT K ta fa)(hb:SimT K tb fb):SimT K (tAnd ta tb) (dAnd fa fb):=by
 intro C w Γ σ H s Γ' Q R e k
 obtain⟨⟨p,G1⟩,e1,e⟩:=bind_some e
 refine ha C w Γ σ H p G1 _ R e1 fun H1 R1 ev1=>?_
 cases p with
 | true=>exact (if_pos rfl).mpr (hb C w G1 σ H1 s Γ' Q R1 (by simpa using e) fun H2 R2 ev2=>k H2 R2 (ev1.trans ev2))
 | false =>
  have e':(false,G1)=(s,Γ'):=by simpa using e
  cases e'
  exact (if_neg Bool.false_ne_true).mpr (k H1 R1 ev1)
theorem zJS{ta tb:TT}{fa fb:DT}(ha:SimT K ta fa)(hb:SimT K tb fb):SimT K (tOr ta tb) (dOr fa fb):=by
 intro C w Γ σ H s Γ' Q R e k
 obtain⟨⟨p,G1⟩,e1,e⟩:=bind_some e
 refine ha C w Γ σ H p G1 _ R e1 fun H1 R1 ev1=>?_
 cases p with
 | false=>exact (if_neg Bool.false_ne_true).mpr (hb C w G1 σ H1 s Γ' Q R1 (by simpa using e) fun H2 R2 ev2=>k H2 R2 (ev1.trans ev2))
 | true =>
  have e':(true,G1)=(s,Γ'):=by simpa using e
  cases e'
  exact (if_pos rfl).mpr (k H1 R1 ev1)
theorem zIf{ta:TT}{fa:DT}(ha:SimT K ta fa):SimT K (tNot ta) (dNot fa):=by
 intro C w Γ σ H s Γ' Q R e k
 obtain⟨p,e1,e⟩:=bind_some e
 cases e
 exact ha C w Γ σ H p.1 p.2 _ R e1 fun H1 R1 ev1=>k H1 R1 ev1
theorem zHB{ta tb:TE}{fa fb:DE}(ha:SimE K ta fa)(hb:SimE K tb fb):SimE K (tAndV ta tb) (dAndV fa fb):=by
 intro C w Γ σ H s Γ' Q R e k
 obtain⟨⟨p,G1⟩,e1,e⟩:=bind_some e
 refine (zDa ha) C w Γ σ H p G1 (fun c H1=>if c=true then tb σ H1 Q else Q (.bl false) H1) R e1 fun H1 R1 ev1=>?_
 cases p with
 | true=>exact (if_pos rfl).mpr (hb C w G1 σ H1 s Γ' Q R1 (by simpa using e) fun v H2 R2 ev2 o n=>k v H2 R2 (ev1.trans ev2) o (n.back ev1 R1.lst))
 | false =>
  have e':(S.v (.a (.bl false)),G1)=(s,Γ'):=by simpa using e
  cases e'
  exact (if_neg Bool.false_ne_true).mpr (k _ H1 R1 ev1 SOk.atom trivial)
end
def dNext:DS:=fun Γ=>some (.nx Γ)
def dSeq(f g:DS):DS:=fun Γ=>(f Γ).bind fun o=>match o with
 | .nx Γ'=>g Γ'
 | o=>some o
def dDrop(f:DE):DS:=fun Γ=>(f Γ).map fun p=>.nx p.2
def dRet(f:DE):DS:=fun Γ=>(f Γ).map fun p=>.rt p.1 p.2
def dRetN:DS:=fun Γ=>some (.rt (.v (.a .non)) Γ)
def dIf(c:DT)(f g:DS):DS:=fun Γ=>(c Γ).bind fun p=>if p.1=true then f p.2 else g p.2
def setS(i:Nat)(s:S)(Γ:En):Option En:=match s with
 | .v t=>some (Γ.set i (some (.v t)))
 | .l xs=>some (Γ.set i (some (.l xs)))
 | .d xs=>some (Γ.set i (some (.d xs)))
 | .s j=>match Γ[j]? with
  | some (some (.r xs))=>some (Γ.set i (some (.r xs)))
  | _=>none
def dSet(i:Nat)(f:DE):DS:=fun Γ=>(f Γ).bind fun p=>(setS i p.1 p.2).map .nx
def dWhile(c:DT)(b:DS):Nat->DS
 | 0=>fun _=>none
 | n+1=>fun Γ=>(c Γ).bind fun p=>if p.1=true then (b p.2).bind fun o=>match o with
   | .nx Γ'=>dWhile c b n Γ'
   | .ct Γ'=>dWhile c b n Γ'
   | .bk Γ'=>some (.nx Γ')
   | .rt s Γ'=>some (.rt s Γ')
  else some (.nx p.2)
section
variable {K:Fg}{ip:Option Nat}
theorem zGl:SimS K ip tNext dNext:=fun C w Γ σ H D o _ R e k=>by cases e; exact k w σ H R
theorem zHr{t u:TS}{f g:DS}(h1:SimS K ip t f)(h2:SimS K ip u g):SimS K ip (tSeq t u) (dSeq f g):=by
 intro C w Γ σ H D o hp R e k
 obtain⟨o1,e1,e⟩:=bind_some e
 refine h1 C w Γ σ H _ o1 hp R e1 ?_
 cases o1 with
 | nx Γ1=>exact fun w' σ' H' R'=>h2 C w' Γ1 σ' H' D o hp R' e k
 | rt s Γ1=>cases e; exact k
 | bk Γ1=>cases e; exact k
 | ct Γ1=>cases e; exact k
theorem zGt{te:TE}{f:DE}(h:SimE K te f):SimS K ip (tDrop te) (dDrop f):=by
 intro C w Γ σ H D o hp R e k
 obtain⟨p,e1,e⟩:=zAA e
 subst e
 exact h C w Γ σ H p.1 p.2 _ R e1 fun v H1 R1 _ _ _=>k w σ H1 R1
theorem zHg{te:TE}{f:DE}(h:SimE K te f):SimS K ip (tRet te) (dRet f):=by
 intro C w Γ σ H D o hp R e k
 obtain⟨p,e1,e⟩:=zAA e
 subst e
 exact h C w Γ σ H p.1 p.2 _ R e1 fun v H1 R1 _ o _=>k w σ H1 v R1 o
theorem zIG{tc:TT}{t u:TS}{c:DT}{f g:DS}(hc:SimT K tc c)(h1:SimS K ip t f)(h2:SimS K ip u g):SimS K ip (tIfS tc t u) (dIf c f g):=by
 intro C w Γ σ H D o hp R e k
 obtain⟨⟨p,G1⟩,e1,e⟩:=bind_some e
 refine hc C w Γ σ H p G1 _ R e1 fun H1 R1 _=>?_
 cases p with
 | true=>exact (if_pos rfl).mpr (h1 C w G1 σ H1 D o hp R1 (by simpa using e) k)
 | false=>exact (if_neg Bool.false_ne_true).mpr (h2 C w G1 σ H1 D o hp R1 (by simpa using e) k)
theorem zAM{C:Fr}{i:Nat}(hp:C.pins.map (·.1)=ip.toList)(hi:ip≠some i):∀ q∈C.pins,q.1≠i:=fun q hq e=>by
 have:q.1∈ip.toList:=hp ▸ List.mem_map.mpr ⟨q,hq,rfl⟩
 rw[Option.mem_toList]at this
 exact hi (by rw[this,e])
theorem zCZ{C:Fr}{w:W}{Γ Γ':En}{σ:St}{H:Hp}{v:V}{s:S}{i:Nat}(R:Rep K C w Γ σ H)(o:SOk K C w σ H v s)(e:setS i s Γ=some Γ')(hn:∀ q∈C.pins,q.1≠i):∃ w',Rep K C w' Γ' (σ.set i (some v)) H:=by
 cases s with
 | v t=>cases e; exact⟨w,R.setv rfl o hn⟩
 | d xs =>
  cases e
  obtain⟨p,vs,rfl,n1,n2,ow,h1,h2⟩:=o
  exact⟨_,R.setd n1 n2 ow h1 h2 hn⟩
 | l xs =>
  cases e
  obtain⟨p,vs,rfl,n1,n2,ow,h1,h2⟩:=o
  exact⟨_,R.setl n1 n2 ow h1 h2 hn⟩
 | s j =>
  unfold setS at e
  dsimp only at e
  split at e
  ·rename_i xs he
   cases e
   obtain⟨v',e1,e2⟩:=R.val j _ he
   have o':σ[j]?=some (some v):=o
   rw[o']at e1; cases e1
   exact⟨w,R.setv rfl e2 hn⟩
  ·cases e
theorem zDc{te:TE}{f:DE}{i:Nat}(h:SimE K te f)(hi:ip≠some i):SimS K ip (tAsg te (gName i)) (dSet i f):=by
 intro C w Γ σ H D o hp R e k
 obtain⟨p,e1,e⟩:=bind_some e
 obtain⟨Γ1,e2,e⟩:=zAA e
 subst e
 refine h C w Γ σ H p.1 p.2 _ R e1 fun v H1 R1 _ o1 _=>?_
 obtain⟨w',R'⟩:=zCZ R1 o1 e2 (zAM hp hi)
 exact k w' _ H1 R'
theorem zFK{tc:TT}{tb:TS}{c:DT}{b:DS}(n:Nat)(hc:SimT K tc c)(hb:SimS K ip tb b):SimS K ip (tWhile tc tb) (dWhile c b n):=by
 intro C w Γ σ H D o hp R e k
 refine⟨fun m σ H=>∃ w Γ,Rep K C w Γ σ H/\dWhile c b m Γ=some o,⟨n,w,Γ,R,e⟩,?_⟩
 rintro m σ1 H1 ⟨w1,Γ1,R1,e1⟩
 cases m with
 | zero=>cases e1
 | succ m =>
  unfold dWhile at e1
  obtain⟨⟨p,G2⟩,e2,e1⟩:=bind_some e1
  refine hc C w1 Γ1 σ1 H1 p G2 _ R1 e2 fun H2 R2 _=>?_
  cases p with
  | false =>
   rw[if_neg Bool.false_ne_true]at e1 ⊢
   cases e1
   exact k w1 σ1 H2 R2
  | true =>
   rw[if_pos rfl]at e1 ⊢
   obtain⟨o2,e3,e1⟩:=bind_some e1
   refine⟨fun σ' H'=>∃ w Γ,Rep K C w Γ σ' H'/\dWhile c b m Γ=some o,fun σ' H' ⟨w',Γ',R',e'⟩=>⟨m,Nat.lt_succ_self _,w',Γ',R',e'⟩,?_⟩
   refine hb C w1 G2 σ1 H2 _ o2 hp R2 e3 ?_
   cases o2 with
   | nx Γ'=>exact fun w' σ' H' R'=>⟨w',Γ',R',e1⟩
   | ct Γ'=>exact fun w' σ' H' R'=>⟨w',Γ',R',e1⟩
   | bk Γ'=>cases e1; exact k
   | rt s Γ'=>cases e1; exact k
end
section
variable {K:Fg}{C:Fr}{w:W}{Γ Γ':En}{σ:St}{H H':Hp}
theorem Rep.base(R:Rep K C w Γ σ H):Rep K ⟨H,w.L,C.pins⟩ w Γ σ H :=
 ⟨R.len,R.val,R.apart,R.lst,fun p hp=>.inl hp,R.ra,R.rl,fun b o h _=>h,R.pin⟩
theorem Rep.back{C1:Fr}{w1:W}{Γ1:En}{σ1:St}{H1:Hp}(R:Rep K C w Γ σ H)(hC:C1=⟨H,w.L,C.pins⟩)(R1:Rep K C1 w1 Γ1 σ1 H1):Rep K C w1 Γ1 σ1 H1:=by
 subst hC
 refine⟨R1.len,R1.val,R1.apart,R1.lst,fun p hp=>?_,R1.ra,R1.rl,fun b o h n=>R1.frame b o (R.frame b o h n) fun z=>?_,R1.pin⟩
 ·rcases R1.own p hp with z | z
  ·exact R.own p z
  ·exact (R.fresh z).2.2
 ·rcases R.own b z with q | q
  ·exact n q
  ·rw[q]at h; cases h
theorem Ow.back{C1:Fr}{p:Addr}(R:Rep K C w Γ σ H)(hC:C1=⟨H,w.L,C.pins⟩)(h:Ow C1 p):Ow C p:=by
 subst hC
 rcases h with z | z
 ·exact R.own p z
 ·exact (R.fresh z).2.2
theorem SOk.back{C1:Fr}{w1:W}{σ1:St}{H1:Hp}{v:V}{s:S}(R:Rep K C w Γ σ H)(hC:C1=⟨H,w.L,C.pins⟩)(o:SOk K C1 w1 σ1 H1 v s):SOk K C w1 σ1 H1 v s:=by
 cases s with
 | v t=>exact o
 | s i=>exact o
 | l xs =>
  obtain⟨p,vs,e,n1,n2,ow,h1,h2⟩:=o
  exact⟨p,vs,e,n1,n2,Ow.back R hC ow,h1,h2⟩
 | d xs =>
  obtain⟨p,vs,e,n1,n2,ow,h1,h2⟩:=o
  exact⟨p,vs,e,n1,n2,Ow.back R hC ow,h1,h2⟩
theorem Rep.freeze{i:Nat}{xs:List T}{p:Addr}(R:Rep K C w Γ σ H)(hi:Γ[i]?=some (some (.l xs)))(hp:σ[i]?=some (some (.ref p)))(hn:∀ q∈C.pins,q.1≠i) :
  Rep K C ⟨w.L.filter (fun q=>decide (q≠p)),fun q=>q=p\/w.R q⟩ (Γ.set i (some (.r xs))) σ H:=by
 have hiΓ:i < Γ.length:=(List.getElem?_eq_some_iff.mp hi).1
 obtain⟨v0,e0,q0,vs0,rfl,hq0,hv0,hi0⟩:=R.val i _ hi
 rw[hp]at e0; cases e0
 have mem:∀ {q:Addr},q∈w.L.filter (fun q=>decide (q≠p)) ↔ q∈w.L/\q≠p:=by intro q; simp
 have back:∀ (m:Nat) (g:G),isMut g=true->(Γ.set i (some (.r xs)))[m]?=some (some g)->m≠i/\Γ[m]?=some (some g):=fun m g mg h=>by
  by_cases hm:m=i
  ·subst hm; rw[List.getElem?_set_self hiΓ]at h; cases h; cases mg
  ·rw[List.getElem?_set_ne (Ne.symm hm)]at h; exact⟨hm,h⟩
 refine⟨by simpa using R.len,fun j g h=>?_,fun j k c ga gb ma mb h1 h2 h3 h4=>?_,fun c hc=>R.lst c (mem.mp hc).1,fun c hc=>R.own c (mem.mp hc).1,fun c hc=>?_,fun c hc z=>?_,R.frame,fun q hq=>?_⟩
 ·by_cases hj:j=i
  ·subst hj
   rw[List.getElem?_set_self hiΓ]at h
   cases h
   exact⟨_,hp,p,vs0,rfl,hi0,hv0,fun z=>(mem.mp z).2 rfl,.inl rfl⟩
  ·rw[List.getElem?_set_ne (Ne.symm hj)]at h
   obtain⟨v,e1,e2⟩:=R.val j g h
   refine⟨v,e1,?_⟩
   cases g with
   | v t=>exact e2
   | l ys =>
    obtain⟨c,us,rfl,hc,h1,h2⟩:=e2
    exact⟨c,us,rfl,mem.mpr ⟨hc,fun z=>hj (R.apart j i p _ _ rfl rfl h hi (z ▸ e1) hp)⟩,h1,h2⟩
   | d ys =>
    obtain⟨c,us,rfl,hc,h1,h2⟩:=e2
    exact⟨c,us,rfl,mem.mpr ⟨hc,fun z=>hj (R.apart j i p _ _ rfl rfl h hi (z ▸ e1) hp)⟩,h1,h2⟩
   | r ys =>
    obtain⟨c,us,rfl,h1,h2⟩:=e2
    exact⟨c,us,rfl,h1,h2.1,fun z=>h2.2.1 (mem.mp z).1,.inr h2.2.2⟩
   | e ys =>
    obtain⟨c,us,rfl,h1,h2⟩:=e2
    exact⟨c,us,rfl,h1,h2.1,fun z=>h2.2.1 (mem.mp z).1,.inr h2.2.2⟩
   | k ys=>exact e2
 ·obtain⟨_,g1⟩:=back j ga ma h1
  obtain⟨_,g2⟩:=back k gb mb h2
  exact R.apart j k c ga gb ma mb g1 g2 h3 h4
 ·rcases hc with e | e
  ·subst e; exact⟨_,hv0⟩
  ·exact R.ra c e
 ·rcases hc with e | e
  ·exact (mem.mp z).2 e
  ·exact R.rl c e (mem.mp z).1
 ·obtain⟨h1,zs,h2⟩:=R.pin q hq
  exact⟨h1,zs,by rw[List.getElem?_set_ne (Ne.symm (hn q hq))]; exact h2⟩
def frz1(Γ:En)(i:Nat):En:=match Γ[i]? with
 | some (some (.l xs))=>Γ.set i (some (.r xs))
 | _=>Γ
def frz(Γ:En)(src:List Nat):En:=src.foldl frz1 Γ
theorem Rep.frz:∀ (src:List Nat) {w:W} {Γ:En},Rep K C w Γ σ H->(∀ i∈src,∀ q∈C.pins,q.1≠i) ->
  ∃ w',Rep K C w' (frz Γ src) σ H/\(∀ p∈w'.L,p∈w.L)/\∀ i∈src,∀ p,σ[i]?=some (some (.ref p))->(∃ xs,Γ[i]?=some (some (.l xs)))->p∉w'.L:=by
 intro src
 induction src with
 | nil=>intro w Γ R _; exact⟨w,R,fun p h=>h,fun i hi=>nomatch hi⟩
 | cons i r ih =>
  intro w Γ R hn
  have step:∃ w1,Rep K C w1 (frz1 Γ i) σ H/\(∀ p∈w1.L,p∈w.L)/\(∀ p,σ[i]?=some (some (.ref p))->(∃ xs,Γ[i]?=some (some (.l xs)))->p∉w1.L):=by
   unfold frz1
   split
   ·rename_i xs e
    obtain⟨v,e1,p,vs,rfl,_⟩:=R.val i _ e
    refine⟨_,R.freeze e e1 (hn i List.mem_cons_self),fun q hq=>(List.mem_filter.mp hq).1,fun q hq _ z=>?_⟩
    rw[e1]at hq; cases hq
    have:=(List.mem_filter.mp z).2
    simp at this
   ·rename_i e
    exact⟨w,R,fun p h=>h,fun p _ ⟨xs,h⟩=>absurd h (e xs)⟩
  obtain⟨w1,R1,s1,n1⟩:=step
  obtain⟨w2,R2,s2,n2⟩:=ih R1 (fun j hj=>hn j (List.mem_cons_of_mem _ hj))
  refine⟨w2,R2,fun p h=>s1 p (s2 p h),fun j hj p hp hx=>?_⟩
  rcases List.mem_cons.mp hj with e | e
  ·subst e; exact fun z=>n1 p hp hx (s2 p z)
  ·by_cases hji:j=i
   ·subst hji; exact fun z=>n1 p hp hx (s2 p z)
   ·refine n2 j e p hp ?_
    obtain⟨xs,hx⟩:=hx
    refine⟨xs,?_⟩
    unfold frz1
    split
    ·rw[List.getElem?_set_ne (Ne.symm hji)]; exact hx
    ·exact hx
end
abbrev DI:=En->Option ((List T×List Nat)×En)
def ItOk(K:Fg)(w:W)(Γ:En)(σ:St)(J:It)(H:Hp)(its:List T)(src:List Nat):Prop:=its.length<=sizeLine/\∀ L',(∀ p∈L',p∈w.L)->(∀ i∈src,∀ p,σ[i]?=some (some (.ref p))->(∃ xs,Γ[i]?=some (some (.l xs)))->p∉L')->∀ H2,Evo L' H H2 ->
 (∀ (i:Nat) t,its[i]?=some t->J.go i H2/\∀ x H3,J.yld i H2 x H3->(∀ b o,H2 b=some o->H3 b=some o)/\Im K H3 x t)/\J.stop its.length H2
def SimI(K:Fg)(wi:TI)(di:DI):Prop:=∀ (C:Fr) (w:W) (Γ:En) (σ:St) (H:Hp) (its:List T) (src:List Nat) (Γ':En) (R:It->Hp->Prop),Rep K C w Γ σ H->di Γ=some ((its,src),Γ') ->
 (∀ J H',Rep K C w Γ' σ H'->Evo w.L H H'->ItOk K w Γ' σ J H' its src->R J H')->wi σ H R
def SimG(K:Fg)(ip:Option Nat)(g:TG)(tg:En->T->Option En):Prop:=∀ (C:Fr) (w:W) (Γ:En) (σ:St) (H:Hp) (v:V) (t:T) (Γ':En) (Q:St->Hp->Prop),C.pins.map (·.1)=ip.toList->Rep K C w Γ σ H->Im K H v t->tg Γ t=some Γ' ->
 (∀ σ',Rep K C w Γ' σ' H->Q σ' H)->g v σ H Q
def SimGs(K:Fg)(ip:Option Nat)(g:TGs)(tg:En->List T->Option En):Prop:=∀ (C:Fr) (w:W) (Γ:En) (σ:St) (H:Hp) (vs:List V) (ts:List T) (Γ':En) (Q:St->Hp->Prop),C.pins.map (·.1)=ip.toList->Rep K C w Γ σ H->Ims K H vs ts->tg Γ ts=some Γ' ->
 (∀ σ',Rep K C w Γ' σ' H->Q σ' H)->g vs σ H Q
def gdName(i:Nat):En->T->Option En:=fun Γ t=>some (Γ.set i (some (.v t)))
def gdNil:En->List T->Option En:=fun Γ ts=>match ts with
 | []=>some Γ
 | _=>none
def gdCons(f:En->T->Option En)(g:En->List T->Option En):En->List T->Option En:=fun Γ ts=>match ts with
 | []=>none
 | t::r=>(f Γ t).bind fun Γ1=>g Γ1 r
def gdTup(n:Nat)(g:En->List T->Option En):En->T->Option En:=fun Γ t=>match t with
 | .t ts=>if ts.length=n then g Γ ts else none
 | _=>none
section
variable {K:Fg}{ip:Option Nat}
theorem zGg{i:Nat}(hi:ip≠some i):SimG K ip (gName i) (gdName i):=by
 intro C w Γ σ H v t Γ' Q hp R h e k
 cases e
 exact k _ (R.setv rfl h (zAM hp hi))
theorem zGj:SimGs K ip gNil gdNil:=by
 intro C w Γ σ H vs ts Γ' Q hp R h e k
 cases ts with
 | nil=>cases e; exact⟨h.inv0,k σ R⟩
 | cons t r=>cases e
theorem zFi{g:TG}{gs:TGs}{f:En->T->Option En}{fs:En->List T->Option En}(h1:SimG K ip g f)(h2:SimGs K ip gs fs):SimGs K ip (gCons g gs) (gdCons f fs):=by
 intro C w Γ σ H vs ts Γ' Q hp R h e k
 cases ts with
 | nil=>cases e
 | cons t r =>
  obtain⟨Γ1,e1,e2⟩:=bind_some e
  obtain⟨v,us,rfl,i1,i2⟩:=h.inv
  exact⟨v,us,rfl,h1 C w Γ σ H v t Γ1 _ hp R i1 e1 fun σ1 R1=>h2 C w Γ1 σ1 H us r Γ' Q hp R1 i2 e2 k⟩
theorem zHT{n:Nat}{gs:TGs}{fs:En->List T->Option En}(h:SimGs K ip gs fs):SimG K ip (gTup K n gs) (gdTup n fs):=by
 intro C w Γ σ H v t Γ' Q hp R hi e k
 cases t with
 | a u=>cases e
 | l u=>cases e
 | f u=>cases e
 | x u v=>cases e
 | t ts =>
  unfold gdTup at e
  dsimp only at e
  split at e
  ·rename_i hn
   obtain⟨p,us,rfl,h1,h2⟩:=hi.inv
   exact⟨p,us,rfl,h1.sq,by rw[h2.len]; exact hn,h C w Γ σ H us ts Γ' Q hp R h2 e k⟩
  ·cases e
end
def forD(tg:En->T->Option En)(b:DS):List T->DS
 | []=>fun Γ=>some (.nx Γ)
 | t::r=>fun Γ=>(tg Γ t).bind fun Γ1=>(b Γ1).bind fun o=>match o with
  | .nx Γ'=>forD tg b r Γ'
  | .ct Γ'=>forD tg b r Γ'
  | .bk Γ'=>some (.nx Γ')
  | .rt s Γ'=>some (.rt s Γ')
def dFor(ip:Option Nat)(di:DI)(tg:En->T->Option En)(b:DS):DS:=fun Γ=>(di Γ).bind fun p=>if p.1.2.all (fun i=>decide (ip≠some i))=true then forD tg b p.1.1 (frz p.2 p.1.2) else none
theorem zHQ{K:Fg}{ip:Option Nat}{wi:TI}{g:TG}{tb:TS}{di:DI}{tg:En->T->Option En}{b:DS}(hi:SimI K wi di)(hg:SimG K ip g tg)(hb:SimS K ip tb b):SimS K ip (tFor wi g tb) (dFor ip di tg b):=by
 intro C w Γ σ H D o hp R e k
 obtain⟨⟨⟨its,src⟩,Γ1⟩,e1,e⟩:=bind_some e
 dsimp only at e
 split at e
 rotate_left
 ·cases e
 rename_i hsrc
 refine hi C w Γ σ H its src Γ1 _ R e1 fun J H1 R1 _ ⟨hl,hJ⟩=>?_
 have hs:∀ i∈src,∀ q∈C.pins,q.1≠i:=fun i hi'=>zAM hp (by have:=List.all_eq_true.mp hsrc i hi'; simpa using this)
 obtain⟨w2,R2,sub,avoid⟩:=R1.frz src hs
 have hC:∃ C1:Fr,C1=⟨H1,w2.L,C.pins⟩:=⟨_,rfl⟩
 obtain⟨C1,hC⟩:=hC
 have R3:Rep K C1 w2 (frz Γ1 src) σ H1:=hC ▸ R2.base
 have hp1:C1.pins.map (·.1)=ip.toList:=by rw[hC]; exact hp
 refine⟨fun i m σ H=>m=its.length - i/\i<=its.length/\∃ w Γ,Rep K C1 w Γ σ H/\forD tg b (its.drop i) Γ=some o,⟨_,rfl,Nat.zero_le _,w2,_,R3,e⟩,?_⟩
 rintro i m σ' H' ⟨rfl,hi',w',Γ',R',e'⟩
 have ev:Evo w2.L H1 H':=fun b o h n=>R'.frame b o (by rw[hC]; exact h) (by rw[hC]; exact n)
 obtain⟨go,stop⟩:=hJ w2.L sub avoid H' ev
 by_cases hlt:i < its.length
 ·obtain⟨t,ht⟩:∃ t,its[i]?=some t:=⟨its[i],by simp[hlt]⟩
  have hd:its.drop i=t::its.drop (i+1):=by
   obtain⟨h1,h2⟩:=List.getElem?_eq_some_iff.mp ht
   rw[← h2]; exact List.drop_eq_getElem_cons h1
  rw[hd]at e'
  unfold forD at e'
  obtain⟨Γ2,e2,e'⟩:=bind_some e'
  obtain⟨o2,e3,e'⟩:=bind_some e'
  obtain⟨g1,g2⟩:=go i t ht
  refine .inr ⟨g1,fun σ H=>∃ w Γ,Rep K C1 w Γ σ H/\forD tg b (its.drop (i+1)) Γ=some o,fun σ2 H2 ⟨w2,Γ2,R2,e2⟩=>⟨_,by omega,rfl,hlt,w2,Γ2,R2,e2⟩,fun x H3 hx=>?_⟩
  obtain⟨k1,k2⟩:=g2 x H3 hx
  refine hg C1 w' Γ' σ' H3 x t Γ2 _ hp1 (R'.evo0 k1) k2 e2 fun σ4 R4=>?_
  refine hb C1 w' Γ2 σ4 H3 _ o2 hp1 R4 e3 ?_
  cases o2 with
  | nx Γ5=>exact fun w5 σ5 H5 R5=>⟨w5,Γ5,R5,e'⟩
  | ct Γ5=>exact fun w5 σ5 H5 R5=>⟨w5,Γ5,R5,e'⟩
  | bk Γ5=>cases e'; exact fun w5 σ5 H5 R5=>k w5 σ5 H5 (R2.back hC R5)
  | rt s Γ5=>cases e'; exact fun w5 σ5 H5 v R5 o5=>k w5 σ5 H5 v (R2.back hC R5) (o5.back R2 hC)
 ·have:i=its.length:=by omega
  subst this
  rw[List.drop_length]at e'
  cases e'
  exact .inl ⟨stop,k w' σ' H' (R2.back hC R')⟩
def pick1(mu:Option Nat)(k:Nat):Option G->Option G
 | some (.l xs)=>if mu=some k then some (.l xs) else some (.r xs)
 | some (.d xs)=>some (.e xs)
 | o=>o
def pick(mu:Option Nat)(ix:List (Option Nat))(Γ:En):En:=ix.map fun o=>o.bind fun k=>pick1 mu k (Γ[k]?).join
def compD(tg:En->T->Option En)(dc:DT)(de:DE):List T->En->Option (List T×En)
 | [],Γ=>some ([],Γ)
 | t::r,Γ=>(tg Γ t).bind fun Γ1=>(dc Γ1).bind fun p=>if p.1=true then (de p.2).bind fun q=>q.1.tree.bind fun t'=>(compD tg dc de r q.2).map fun z=>(t'::z.1,z.2) else compD tg dc de r p.2
def cback(mu:Option (Nat×Nat))(Γ Γo:En):En:=match mu with
 | none=>Γ
 | some (j,i)=>match Γo[j]? with
  | some (some (.l xs))=>Γ.set i (some (.l xs))
  | _=>Γ
def dComp(mu:Option (Nat×Nat))(ix:List (Option Nat))(di:DI)(tg:En->T->Option En)(dc:DT)(de:DE):DE:=fun Γ=>(di Γ).bind fun p =>
 match mu with
 | none=>(compD tg dc de p.1.1 (pick none ix p.2)).map fun z=>(.l z.1,p.2)
 | some (j,i)=>if i∈p.1.2 then none else match p.2[i]? with
  | some (some (.l _))=>(compD tg dc de p.1.1 (pick (some i) ix p.2)).map fun z=>(.l z.1,cback mu p.2 z.2)
  | _=>none
section
variable {K:Fg}
theorem zCP{C1:Fr}{w1:W}{J:It}{H1:Hp}{its:List T}{ix:List (Option Nat)}{g:TG}{tc:TT}{te:TE}{tg:En->T->Option En}{dc:DT}{de:DE}{jp:Option Nat}{σ:St}{Γ0 Γe:En}{ts:List T}{Q:VK}
  (hp:C1.pins.map (·.1)=jp.toList) (hg:SimG K jp g tg) (hc:SimT K tc dc) (he:SimE K te de) (hl:its.length<=sizeLine) (hC:C1.H0=H1)
  (hJ:∀ H2,Evo C1.fx H1 H2->(∀ (i:Nat) t,its[i]?=some t->J.go i H2/\∀ x H3,J.yld i H2 x H3->(∀ b o,H2 b=some o->H3 b=some o)/\Im K H3 x t)/\J.stop its.length H2)
  (hfx:∀ p,p∈w1.L->p∈C1.fx)
  (R:Rep K C1 w1 Γ0 (frm ix σ) H1) (e:compD tg dc de its Γ0=some (ts,Γe))
  (k:∀ σ' H' ys,Rep K C1 w1 Γe σ' H'->Ims K H' ys ts->ys.length<=sizeLine->∀ D,H' D=none->Q (.ref D) (upd H' D (.lst ys))):CompW J ix g tc te σ H1 Q:=by
 refine⟨fun i m ys σ' H'=>m=its.length - i/\i<=its.length/\ys.length<=i/\∃ Γ pre post,Rep K C1 w1 Γ σ' H'/\Ims K H' ys pre/\compD tg dc de (its.drop i) Γ=some (post,Γe)/\ts=pre++post,⟨_,rfl,Nat.zero_le _,Nat.zero_le _,Γ0,[],ts,R,.nil,e,rfl⟩,?_⟩
 rintro i m ys σ' H' ⟨rfl,hi,hy,Γ,pre,post,R',hpre,e',rfl⟩
 have ev:Evo C1.fx H1 H':=fun b o h n=>R'.frame b o (by rw[hC]; exact h) n
 obtain⟨go,stop⟩:=hJ H' ev
 by_cases hlt:i < its.length
 ·obtain⟨t,ht⟩:∃ t,its[i]?=some t:=⟨its[i],by simp[hlt]⟩
  have hd:its.drop i=t::its.drop (i+1):=by
   obtain⟨h1,h2⟩:=List.getElem?_eq_some_iff.mp ht
   rw[← h2]; exact List.drop_eq_getElem_cons h1
  rw[hd]at e'
  unfold compD at e'
  obtain⟨Γ1,e1,e'⟩:=bind_some e'
  obtain⟨⟨b,Γ2⟩,e2,e'⟩:=bind_some e'
  obtain⟨g1,g2⟩:=go i t ht
  refine .inr ⟨g1,by omega,fun ys' σ2 H2=>ys'.length<=i+1/\∃ Γ pre' post',Rep K C1 w1 Γ σ2 H2/\Ims K H2 ys' pre'/\compD tg dc de (its.drop (i+1)) Γ=some (post',Γe)/\pre++post=pre'++post',fun ys' σ2 H2 ⟨a,b⟩=>⟨_,by omega,rfl,hlt,a,b⟩,fun x H2 hx=>?_⟩
  obtain⟨k1,k2⟩:=g2 x H2 hx
  have ev1:Evo w1.L H' H2:=fun b o h _=>k1 b o h
  have R2:=R'.evo0 k1
  refine hg C1 w1 Γ σ' H2 x t Γ1 _ hp R2 k2 e1 fun σ3 R3=>?_
  refine hc C1 w1 Γ1 σ3 H2 b Γ2 _ R3 e2 fun H4 R4 ev4=>?_
  have hpre4:Ims K H4 ys pre:=(hpre.evo ev1 R'.lst).evo ev4 R3.lst
  cases b with
  | true =>
   rw[if_pos rfl]at e' ⊢
   obtain⟨⟨s,Γ3⟩,e3,e'⟩:=bind_some e'
   obtain⟨t',e4,e'⟩:=bind_some e'
   obtain⟨⟨ts',Γ4⟩,e5,e'⟩:=zAA e'
   cases e'
   refine he C1 w1 Γ2 σ3 H4 s Γ3 _ R4 e3 fun v H5 R5 ev5 o5 _=>?_
   cases s with
   | l _=>cases e4
   | s _=>cases e4
   | d _=>cases e4
   | v t'' =>
    cases e4
    exact⟨by simp; omega,Γ3,pre++[t'],ts',R5,(hpre4.evo ev5 R4.lst).app (.one o5),e5,by simp⟩
  | false =>
   rw[if_neg Bool.false_ne_true]at e' ⊢
   exact⟨by omega,Γ2,pre,post,R4,hpre4,e',rfl⟩
 ·have:i=its.length:=by omega
  subst this
  rw[List.drop_length]at e'
  cases e'
  rw[List.append_nil]at k
  exact .inl ⟨stop,by omega,k σ' H' ys R' hpre (by omega)⟩
theorem zAi{mu:Option Nat}{ix:List (Option Nat)}{Γ:En}{j:Nat}{g:G}(h:(pick mu ix Γ)[j]?=some (some g)):∃ k g',ix[j]?=some (some k)/\Γ[k]?=some (some g')/\pick1 mu k (some g')=some g:=by
 unfold pick at h
 rw[List.getElem?_map]at h
 cases e:ix[j]? with
 | none=>rw[e]at h; cases h
 | some o =>
  rw[e]at h
  cases o with
  | none=>cases h
  | some k =>
   have h':pick1 mu k (Γ[k]?).join=some g:=Option.some.inj h
   cases e2:Γ[k]? with
   | none=>rw[e2]at h'; cases h'
   | some o2 =>
    cases o2 with
    | none=>rw[e2]at h'; cases h'
    | some g'=>rw[e2]at h'; exact⟨k,g',rfl,e2,h'⟩
theorem zBj{ix:List (Option Nat)}{σ:St}{j k:Nat}{v:V}(h:ix[j]?=some (some k))(hv:σ[k]?=some (some v)):(frm ix σ)[j]?=some (some v):=by
 unfold frm
 rw[List.getElem?_map,h]
 show some ((σ[k]?).join)=_
 rw[hv]; rfl
theorem zDU{mu:Option (Nat×Nat)}{ix:List (Option Nat)}{wi:TI}{g:TG}{tc:TT}{te:TE}{di:DI}{tg:En->T->Option En}{dc:DT}{de:DE}(hi:SimI K wi di)(hg:SimG K (mu.map (·.1)) g tg)(hc:SimT K tc dc)(he:SimE K te de)
  (hmu:∀ j i,mu=some (j,i)->ix[j]?=some (some i)) (hix:∀ (j j' i:Nat),mu.map (·.2)=some i->ix[j]?=some (some i)->ix[j']?=some (some i)->j=j'):SimE K (tComp wi ix g tc te) (dComp mu ix di tg dc de):=by
 intro C w Γ σ H s Γ' Q R e k
 obtain⟨⟨⟨its,src⟩,Γ1⟩,e1,e⟩:=bind_some e
 refine hi C w Γ σ H its src Γ1 _ R e1 fun J H1 R1 ev1 ⟨hl,hJ⟩=>?_
 cases mu with
 | none =>
  obtain⟨⟨ts,Γe⟩,e2,e⟩:=zAA e
  cases e
  have Rin:Rep K ⟨H1,[],[]⟩ ⟨[],fun q=>w.R q\/q∈w.L⟩ (pick none ix Γ1) (frm ix σ) H1:=by
   refine⟨by simp[pick,frm],fun j g h=>?_,fun i j p ga gb ma mb h1 h2 h3 h4=>?_,fun p hp=>(nomatch hp),fun p hp=>(nomatch hp),fun p hp=>?_,fun p hp=>(nofun),fun b o h _=>h,fun q hq=>(nomatch hq)⟩
   ·obtain⟨k',g',a1,a2,a3⟩:=zAi h
    obtain⟨v,b1,b2⟩:=R1.val k' g' a2
    refine⟨v,zBj a1 b1,?_⟩
    cases g' with
    | v t=>cases a3; exact b2
    | l xs =>
     have:g=.r xs:=by simpa [pick1] using a3.symm
     subst this
     obtain⟨p,vs,rfl,c1,c2,c3⟩:=b2
     exact⟨p,vs,rfl,c3,c2,nofun,.inr c1⟩
    | r xs =>
     cases a3
     obtain⟨p,vs,rfl,c1,c2⟩:=b2
     exact⟨p,vs,rfl,c1,c2.1,nofun,.inl c2.2.2⟩
    | d xs =>
     cases a3
     obtain⟨p,vs,rfl,c1,c2,c3⟩:=b2
     exact⟨p,vs,rfl,c3,c2,nofun,.inr c1⟩
    | e xs =>
     cases a3
     obtain⟨p,vs,rfl,c1,c2⟩:=b2
     exact⟨p,vs,rfl,c1,c2.1,nofun,.inl c2.2.2⟩
    | k xs=>cases a3; exact b2
   ·obtain⟨k',g',a1,a2,a3⟩:=zAi h1
    cases g' with
    | v t=>cases a3; cases ma
    | l xs =>
     have:ga=.r xs:=by simpa [pick1] using a3.symm
     subst this; cases ma
    | r xs=>cases a3; cases ma
    | k xs=>cases a3; cases ma
    | d xs=>cases a3; cases ma
    | e xs=>cases a3; cases ma
   ·rcases hp with z | z
    ·exact R1.ra p z
    ·obtain⟨o,z,_⟩:=R1.lst p z; exact⟨o,z⟩
  refine zCP (jp:=none) (C1:=⟨H1,[],[]⟩) rfl hg hc he hl rfl (fun H2 ev=>hJ [] (fun p hp=>nomatch hp) (fun _ _ _ _ _=>nofun) H2 ev) (fun p hp=>hp) Rin e2 fun σ' H' ys R' hy hz D hD=>?_
  have R2:Rep K C w Γ1 σ H':=R1.evo0 fun b o h=>R'.frame b o h nofun
  exact k _ _ (R2.new hD) ((ev1.trans fun b o h _=>R'.frame b o h nofun).trans (Evo.new hD)) (R2.newl hD hy) ⟨_,rfl,zAK (L:=w.L) (ev1.trans fun b o h _=>R'.frame b o h nofun) R2.lst hD⟩
 | some m =>
  obtain⟨j,i⟩:=m
  dsimp only at e
  split at e
  ·cases e
  rename_i hsrc
  split at e
  rotate_left
  ·cases e
  rename_i xs0 hx0
  obtain⟨⟨ts,Γe⟩,e2,e⟩:=zAA e
  cases e
  obtain⟨v0,s0,p,vs0,rfl,m0,h0,i0⟩:=R1.val i _ hx0
  have hij:=hmu j i rfl
  have Rin:Rep K ⟨H1,[p],[(j,p)]⟩ ⟨[p],fun q=>w.R q\/(q∈w.L/\q≠p)⟩ (pick (some i) ix Γ1) (frm ix σ) H1:=by
   refine⟨by simp[pick,frm],fun j' g h=>?_,fun i1 i2 p' ga gb ma mb h1 h2 h3 h4=>?_,fun q hq=>?_,fun q hq=>.inl hq,fun q hq=>?_,fun q hq z=>?_,fun b o h _=>h,fun q hq=>?_⟩
   ·obtain⟨k',g',a1,a2,a3⟩:=zAi h
    obtain⟨v,b1,b2⟩:=R1.val k' g' a2
    refine⟨v,zBj a1 b1,?_⟩
    cases g' with
    | v t=>cases a3; exact b2
    | l xs =>
     obtain⟨p',vs,rfl,c1,c2,c3⟩:=b2
     by_cases hk:i=k'
     ·subst hk
      have:g=.l xs:=by simpa [pick1] using a3.symm
      subst this
      rw[s0]at b1; cases b1
      exact⟨p,vs,rfl,List.mem_singleton.mpr rfl,c2,c3⟩
     ·have:g=.r xs:=by simpa [pick1,hk] using a3.symm
      subst this
      have hne:p'≠p:=fun z=>hk (R1.apart i k' p _ _ rfl rfl hx0 a2 s0 (z ▸ b1))
      exact⟨p',vs,rfl,c3,c2,fun z=>hne (List.mem_singleton.mp z),.inr ⟨c1,hne⟩⟩
    | d xs =>
     cases a3
     obtain⟨p',o',rfl,c1,c2,c3⟩:=b2
     have hne:p'≠p:=fun z=>by
      subst z
      rw[h0]at c2; cases c2
      exact c3
     exact⟨p',o',rfl,c3,c2,fun z=>hne (List.mem_singleton.mp z),.inr ⟨c1,hne⟩⟩
    | r xs =>
     cases a3
     obtain⟨p',vs,rfl,c1,c2⟩:=b2
     exact⟨p',vs,rfl,c1,c2.1,fun z=>c2.2.1 (List.mem_singleton.mp z ▸ m0),.inl c2.2.2⟩
    | e xs =>
     cases a3
     obtain⟨p',vs,rfl,c1,c2⟩:=b2
     exact⟨p',vs,rfl,c1,c2.1,fun z=>c2.2.1 (List.mem_singleton.mp z ▸ m0),.inl c2.2.2⟩
    | k xs=>cases a3; exact b2
   ·have only:∀ (n:Nat) (gc:G),isMut gc=true->(pick (some i) ix Γ1)[n]?=some (some gc)->ix[n]?=some (some i):=fun n gc mc h=>by
     obtain⟨k',g',a1,a2,a3⟩:=zAi h
     cases g' with
     | v t=>cases a3; cases mc
     | l xs =>
      by_cases hk:i=k'
      ·subst hk; exact a1
      ·have:gc=.r xs:=by simpa [pick1,hk] using a3.symm
       subst this; cases mc
     | r xs=>cases a3; cases mc
     | k xs=>cases a3; cases mc
     | d xs=>cases a3; cases mc
     | e xs=>cases a3; cases mc
    exact hix i1 i2 i rfl (only i1 ga ma h1) (only i2 gb mb h2)
   ·rw[List.mem_singleton.mp hq]; exact⟨_,h0,trivial⟩
   ·rcases hq with z | z
    ·exact R1.ra q z
    ·obtain⟨o,z,_⟩:=R1.lst q z.1; exact⟨o,z⟩
   ·have e:=List.mem_singleton.mp z
    rcases hq with z | z
    ·exact R1.rl q z (e ▸ m0)
    ·exact z.2 e
   ·rw[List.mem_singleton.mp hq]
    refine⟨zBj hij s0,xs0,?_⟩
    unfold pick
    rw[List.getElem?_map,hij]
    show some (pick1 (some i) i (Γ1[i]?).join)=_
    rw[hx0]; simp[pick1,Option.join]
  have av:∀ i'∈src,∀ q,σ[i']?=some (some (.ref q))->(∃ xs,Γ1[i']?=some (some (.l xs)))->q∉[p]:=fun i' hi' q hq ⟨xs,hx⟩ z=>by
   rw[List.mem_singleton.mp z]at hq
   have:=R1.apart i i' p _ _ rfl rfl hx0 hx s0 hq
   subst this
   exact hsrc hi'
  refine zCP (jp:=some j) (C1:=⟨H1,[p],[(j,p)]⟩) rfl hg hc he hl rfl (fun H2 ev=>hJ [p] (fun q hq=>List.mem_singleton.mp hq ▸ m0) av H2 ev) (fun p hp=>hp) Rin e2 fun σ' H' ys R' hy hz D hD=>?_
  obtain⟨q1,xs',q2⟩:=R'.pin (j,p) (List.mem_singleton.mpr rfl)
  obtain⟨v',s',p',us',rfl,_,h',i'⟩:=R'.val j _ q2
  have s'':σ'[j]?=some (some (.ref p)):=q1
  rw[s'']at s'; cases s'
  have evp:Evo [p] H1 H':=fun b o h n=>R'.frame b o h n
  have R2:Rep K C w (Γ1.set i (some (.l xs'))) σ H':=(R1.put2 hx0 s0 evp h' i').1
  have eb:cback (some (j,i)) Γ1 Γe=Γ1.set i (some (.l xs')):=by unfold cback; dsimp only; rw[q2]
  rw[eb]at k
  exact k _ _ (R2.new hD) ((ev1.trans (evp.wide fun q hq=>List.mem_singleton.mp hq ▸ m0)).trans (Evo.new hD)) (R2.newl hD hy) ⟨_,rfl,zAK (L:=w.L) (ev1.trans (evp.wide fun q hq=>List.mem_singleton.mp hq ▸ m0)) R2.lst hD⟩
end
abbrev DF:=List G->Option (G×List T)
def ROk(K:Fg)(H H':Hp)(v:V):G->Prop
 | .v t=>Im K H' v t
 | .l xs=>∃ p us,v=.ref p/\H p=none/\H' p=some (.lst us)/\Ims K H' us xs
 | .r _=>False
 | .k _=>False
 | .d kvs=>∃ p o,v=.ref p/\H p=none/\H' p=some o/\DOk K H' o kvs
 | .e _=>False
theorem zCe{K:Fg}{H:Hp}{vs:List V}{kvs:Dk}(h:DOk K H (.lst vs) kvs):False:=h
def pinsG(ip:Option Nat)(vs:List V):List (Nat×Addr):=match ip with
 | none=>[]
 | some k=>match vs[k]? with
  | some (.ref p)=>[(k,p)]
  | _=>[]
def spD(K:Fg)(ip:Option Nat)(n:Nat)(F:DF):Sp:=fun vs H Q _=>vs.length=n/\∃ (w:W) (gs:List G) (r:G) (ys:List T),F gs=some (r,ys)/\Rep K ⟨H,w.L,pinsG ip vs⟩ w (gs.map some) (vs.map some) H /\
 (pinsG ip vs).map (·.1)=ip.toList/\(∀ p∈w.L,p∈(pinsG ip vs).map (·.2)) /\
 ∀ v H',Evo w.L H H'->(∀ q∈pinsG ip vs,∃ us,H' q.2=some (.lst us)/\Ims K H' us ys)->ROk K H H' v r->Q v H'
def outl(ip:Option Nat)(Γ:En):List T:=match ip with
 | none=>[]
 | some k=>match Γ[k]? with
  | some (some (.l xs))=>xs
  | _=>[]
def resG(ip:Option Nat)(Γ:En):S->Option G
 | .v t=>some (.v t)
 | .l xs=>some (.l xs)
 | .s i=>if ip=some i then none else match Γ[i]? with
  | some (some (.l xs))=>some (.l xs)
  | some (some (.d xs))=>some (.d xs)
  | _=>none
 | .d xs=>some (.d xs)
def fnD(ip:Option Nat)(np nN:Nat)(g:DS):DF:=fun gs=>if gs.length=np then (g (gs.map some++List.replicate (nN - np) none)).bind fun o=>match o with
  | .nx Γ=>some (.v (.a .non),outl ip Γ)
  | .rt s Γ=>(resG ip Γ s).map fun r=>(r,outl ip Γ)
  | _=>none
 else none
section
variable {K:Fg}
theorem Rep.more{C:Fr}{w:W}{Γ:En}{σ:St}{H:Hp}(R:Rep K C w Γ σ H)(n:Nat):Rep K C w (Γ++List.replicate n none) (σ++List.replicate n none) H:=by
 have get:∀ {j:Nat} {g:G},(Γ++List.replicate n none)[j]?=some (some g)->Γ[j]?=some (some g):=fun {j g} h=>by
  rcases Nat.lt_or_ge j Γ.length with z | z
  ·rw[List.getElem?_append_left z]at h; exact h
  ·rw[List.getElem?_append_right z,List.getElem?_replicate]at h; split at h <;> cases h
 have put:∀ {j:Nat} {o:Option V},j < σ.length->(σ++List.replicate n none)[j]?=σ[j]?:=fun z=>List.getElem?_append_left z
 have lt:∀ {j:Nat} {g:G},Γ[j]?=some (some g)->j < σ.length:=fun h=>by rw[R.len]; exact (List.getElem?_eq_some_iff.mp h).1
 refine⟨by simp[R.len],fun i g h=>?_,fun i j p ga gb ma mb h1 h2 h3 h4=>?_,R.lst,R.own,R.ra,R.rl,R.frame,fun q hq=>?_⟩
 ·have h':=get h
  obtain⟨v,e1,e2⟩:=R.val i g h'
  exact⟨v,by rw[put (o:=none) (lt h')]; exact e1,e2⟩
 ·have g1:=get h1
  have g2:=get h2
  rw[put (o:=none) (lt g1)]at h3
  rw[put (o:=none) (lt g2)]at h4
  exact R.apart i j p ga gb ma mb g1 g2 h3 h4
 ·obtain⟨h1,xs,h2⟩:=R.pin q hq
  exact⟨by rw[put (o:=none) (lt h2)]; exact h1,xs,by rw[List.getElem?_append_left (List.getElem?_eq_some_iff.mp h2).1]; exact h2⟩
theorem zBh{ip:Option Nat}{ts:TS}{g:DS}{N:List Str}{np:Nat}{vs:List V}{H:Hp}{Q:VK}{E:XK}(hb:SimS K ip ts g)(h:spD K ip np (fnD ip np N.length g) vs H Q E):ts { nx:=fun _ H'=>Q .non H',rt:=Q } (L2.start N vs) H:=by
 obtain⟨hn,w,gs,r,ys,e,R,hp,hL,k⟩:=h
 unfold fnD at e
 have hg:gs.length=np:=by
  have:=R.len
  simp at this
  omega
 rw[if_pos hg]at e
 obtain⟨o,e1,e⟩:=bind_some e
 have R0:Rep K ⟨H,w.L,pinsG ip vs⟩ w (gs.map some++List.replicate (N.length - np) none) (L2.start N vs) H:=by
  unfold L2.start
  rw[hn]
  exact R.more _
 have fin:∀ {w':W} {Γ':En} {σ':St} {H':Hp},Rep K ⟨H,w.L,pinsG ip vs⟩ w' Γ' σ' H'->outl ip Γ'=ys->∀ v,ROk K H H' v r->Q v H':=fun {w' Γ' σ' H'} R' eo v hr=>by
  refine k v H' (fun b o h n=>R'.frame b o h n) (fun q hq=>?_) hr
  obtain⟨h1,xs,h2⟩:=R'.pin q hq
  obtain⟨v',e1,p,us,rfl,_,h3,h4⟩:=R'.val q.1 _ h2
  rw[h1]at e1; cases e1
  refine⟨us,h3,?_⟩
  have hq1:q.1∈ip.toList:=hp ▸ List.mem_map.mpr ⟨q,hq,rfl⟩
  rw[Option.mem_toList]at hq1
  unfold outl at eo
  rw[hq1]at eo
  dsimp only at eo
  rw[h2]at eo
  dsimp only at eo
  rw[← eo]; exact h4
 have notpin:∀ {w':W} {Γ':En} {σ':St} {H':Hp} {p:Addr},Rep K ⟨H,w.L,pinsG ip vs⟩ w' Γ' σ' H'->(∀ q∈pinsG ip vs,q.2≠p)->Ow ⟨H,w.L,pinsG ip vs⟩ p->H p=none:=fun {w' Γ' σ' H' p} R' hne ow=>by
  rcases ow with z | z
  ·obtain⟨q,hq,e⟩:=List.mem_map.mp (hL p z)
   exact absurd e (hne q hq)
  ·exact z
 refine hb _ w _ _ H _ o hp R0 e1 ?_
 cases o with
 | nx Γ' =>
  cases e
  exact fun w' σ' H' R'=>fin R' rfl _ (by show Im K H' V.non (.a .non); exact Im.atom)
 | rt s Γ' =>
  obtain⟨r',e2,e⟩:=zAA e
  cases e
  refine fun w' σ' H' v R' o'=>fin R' rfl v ?_
  have inL:∀ q∈pinsG ip vs,q.2∈w'.L:=fun q hq=>by
   obtain⟨h1,xs,h2⟩:=R'.pin q hq
   obtain⟨v',e1,p,us,rfl,h3,_⟩:=R'.val q.1 _ h2
   rw[h1]at e1; cases e1
   exact h3
  cases s with
  | v t=>cases e2; exact o'
  | l xs =>
   cases e2
   obtain⟨p,us,rfl,n1,n2,ow,h1,h2⟩:=o'
   exact⟨p,us,rfl,notpin R' (fun q hq z=>n1 (z ▸ inL q hq)) ow,h1,h2⟩
  | d xs =>
   cases e2
   obtain⟨p,us,rfl,n1,n2,ow,h1,h2⟩:=o'
   exact⟨p,us,rfl,notpin R' (fun q hq z=>n1 (z ▸ inL q hq)) ow,h1,h2⟩
  | s i =>
   unfold resG at e2
   dsimp only at e2
   split at e2
   ·cases e2
   rename_i hi
   split at e2
   ·rename_i xs hx
    cases e2
    obtain⟨v',e3,p,us,rfl,h3,h4,h5⟩:=R'.val i _ hx
    have o'':σ'[i]?=some (some v):=o'
    rw[o'']at e3; cases e3
    refine⟨p,us,rfl,notpin R' (fun q hq z=>?_) (R'.own p h3),h4,h5⟩
    obtain⟨h1,ys',h2⟩:=R'.pin q hq
    have:=R'.apart q.1 i q.2 _ _ rfl rfl h2 hx h1 (z ▸ o'')
    have hq1:q.1∈ip.toList:=hp ▸ List.mem_map.mpr ⟨q,hq,rfl⟩
    rw[Option.mem_toList]at hq1
    exact hi (by rw[hq1,this])
   ·rename_i xs hx
    cases e2
    obtain⟨v',e3,p,us,rfl,h3,h4,h5⟩:=R'.val i _ hx
    have o'':σ'[i]?=some (some v):=o'
    rw[o'']at e3; cases e3
    refine⟨p,us,rfl,notpin R' (fun q hq z=>?_) (R'.own p h3),h4,h5⟩
    obtain⟨h1,ys',h2⟩:=R'.pin q hq
    have:=R'.apart q.1 i q.2 _ _ rfl rfl h2 hx h1 (z ▸ o'')
    have hq1:q.1∈ip.toList:=hp ▸ List.mem_map.mpr ⟨q,hq,rfl⟩
    rw[Option.mem_toList]at hq1
    exact hi (by rw[hq1,this])
   ·cases e2
 | bk Γ'=>cases e
 | ct Γ'=>cases e
def argG(ip:Option Nat)(Γ:En)(k:Nat):S->Option G
 | .v t=>some (.v t)
 | .l xs=>some (if ip=some k then .l xs else .r xs)
 | .s i=>match Γ[i]? with
  | some (some (.l xs))=>some (if ip=some k then .l xs else .r xs)
  | some (some (.r xs))=>if ip=some k then none else some (.r xs)
  | some (some (.k xs))=>if ip=some k then none else some (.k xs)
  | some (some (.d xs))=>if ip=some k then none else some (.e xs)
  | some (some (.e xs))=>if ip=some k then none else some (.e xs)
  | _=>none
 | .d xs=>if ip=some k then none else some (.e xs)
def argsG(ip:Option Nat)(Γ:En):Nat->List S->Option (List G)
 | _,[]=>some []
 | k,s::r=>(argG ip Γ k s).bind fun g=>(argsG ip Γ (k+1) r).map fun gs=>g::gs
def isSl(i:Nat):S->Bool
 | .s j=>j == i
 | _=>false
def isTmp:S->Bool
 | .l _=>true
 | _=>false
def onceS(ip:Option Nat)(ss:List S):Bool:=match ip with
 | none=>true
 | some k=>match ss[k]? with
  | some (.s i)=>(ss.eraseIdx k).all fun s=>!isSl i s
  | some (.l _)=>(ss.eraseIdx k).all fun s=>!isTmp s
  | _=>false
def backS(ip:Option Nat)(Γ:En)(ss:List S)(ys:List T):En:=match ip with
 | none=>Γ
 | some k=>match ss[k]? with
  | some (.s i)=>Γ.set i (some (.l ys))
  | _=>Γ
def toS:G->S
 | .v t=>.v t
 | .l xs=>.l xs
 | .r xs=>.l xs
 | .k xs=>.l xs
 | .d xs=>.d xs
 | .e xs=>.d xs
def dCall(ip:Option Nat)(F:DF)(ds:List V)(fa:DA):DE:=fun Γ=>(fa Γ).bind fun p=>if onceS ip p.1=true then (argsG ip p.2 0 (p.1++ds.map fun v=>.v (.a v))).bind fun gs=>(F gs).map fun q=>(toS q.1,backS ip p.2 p.1 q.2) else none
theorem SOks.app{C:Fr}{w:W}{σ:St}{H:Hp}:∀ {vs:List V} {ss:List S},SOks K C w σ H vs ss->∀ ds:List V,SOks K C w σ H (vs++ds) (ss++ds.map fun v=>.v (.a v))
 | [],[],_,[]=>trivial
 | [],[],_,d::ds=>⟨SOk.atom,SOks.app (vs:=[]) (ss:=[]) trivial ds⟩
 | _::_,_::_,h,ds=>⟨h.1,SOks.app h.2 ds⟩
 | [],_::_,h,_=>h.elim
 | _::_,[],h,_=>h.elim
theorem SOks.len{C:Fr}{w:W}{σ:St}{H:Hp}:∀ {vs:List V} {ss:List S},SOks K C w σ H vs ss->vs.length=ss.length
 | [],[],_=>rfl
 | _::_,_::_,h=>by simp[SOks.len h.2]
 | [],_::_,h=>h.elim
 | _::_,[],h=>h.elim
theorem SOks.get{C:Fr}{w:W}{σ:St}{H:Hp}:∀ {vs:List V} {ss:List S} {k:Nat} {s:S},SOks K C w σ H vs ss->ss[k]?=some s->∃ v,vs[k]?=some v/\SOk K C w σ H v s
 | [],[],_,_,_,e=>by simp at e
 | v::_,_::_,0,_,h,e=>by simp at e; subst e; exact⟨v,rfl,h.1⟩
 | _::_,_::_,k+1,_,h,e=>by simpa using SOks.get (k:=k) h.2 (by simpa using e)
 | [],_::_,_,_,h,_=>h.elim
 | _::_,[],_,_,h,_=>h.elim
theorem zAz{ip:Option Nat}{Γ:En}:∀ {ss:List S} {k:Nat} {gs:List G},argsG ip Γ k ss=some gs->gs.length=ss.length
 | [],_,_,e=>by cases e; rfl
 | s::r,k,_,e=>by
  obtain⟨g,e1,e⟩:=bind_some e
  obtain⟨gs,e2,e⟩:=zAA e
  cases e
  simp[zAz e2]
theorem zAN{ip:Option Nat}{Γ:En}:∀ {ss:List S} {k:Nat} {gs:List G} {j:Nat} {g:G},argsG ip Γ k ss=some gs->gs[j]?=some g->∃ s,ss[j]?=some s/\argG ip Γ (k+j) s=some g
 | [],_,_,_,_,e,h=>by cases e; simp at h
 | s::r,k,_,j,g,e,h=>by
  obtain⟨g',e1,e⟩:=bind_some e
  obtain⟨gs,e2,e⟩:=zAA e
  cases e
  cases j with
  | zero=>simp at h; subst h; exact⟨s,rfl,e1⟩
  | succ j =>
   obtain⟨s',a,b⟩:=zAN (j:=j) e2 (by simpa using h)
   exact⟨s',by simpa using a,by rw[← b]; congr 1; omega⟩
theorem zB3{ip:Option Nat}{n:Nat}{F:DF}{ds:List V}{E:XK}{ta:TA}{fa:DA}(hF:∀ gs r,F gs=some r->gs.length=n)(ha:SimA K ta fa):SimE K (tCall (spD K ip n F) ds E ta) (dCall ip F ds fa):=by
 intro C w Γ σ H s Γ' Q R e k
 obtain⟨⟨ss,Γ1⟩,e1,e⟩:=bind_some e
 dsimp only at e
 split at e
 rotate_left
 ·cases e
 rename_i honce
 obtain⟨gs,e2,e⟩:=bind_some e
 obtain⟨⟨r,ys⟩,e3,e⟩:=zAA e
 cases e
 refine ha C w Γ σ H ss Γ1 _ R e1 fun vs0 H1 R1 ev1 o0 n0=>?_
 have o1:=o0.app ds
 have hl0:=o0.len
 generalize hvs:vs0++ds=vs at o1 ⊢
 generalize hss:ss++(ds.map fun v=>S.v (.a v))=ss' at o1 e2
 have hl:=o1.len
 have hgl:=zAz e2
 have hn:vs.length=n:=by rw[hl,← hgl]; exact hF _ _ e3
 have resOk:∀ {H2:Hp} {v:V} {L:List Addr},Evo L H1 H2->ROk K H1 H2 v r->Rep K C w Γ1 σ H1->SOk K C w σ H2 v (toS r):=fun {H2 v L} ev hr R=>by
  cases r with
  | v t=>exact hr
  | l xs =>
   obtain⟨p,us,rfl,h1,h2,h3⟩:=hr
   obtain⟨a,b,c⟩:=R.fresh h1
   exact⟨p,us,rfl,a,b,c,h2,h3⟩
  | r xs=>exact hr.elim
  | k xs=>exact hr.elim
  | d xs =>
   obtain⟨p,us,rfl,h1,h2,h3⟩:=hr
   obtain⟨a,b,c⟩:=R.fresh h1
   exact⟨p,us,rfl,a,b,c,h2,h3⟩
  | e xs=>exact hr.elim
 have resNew:∀ {H2:Hp} {v:V},ROk K H1 H2 v r->Nw H v (toS r):=fun {H2 v} hr=>by
  cases r with
  | v t=>trivial
  | l xs =>
   obtain⟨p,us,rfl,h1,h2,h3⟩:=hr
   exact⟨p,rfl,zAK ev1 R1.lst h1⟩
  | r xs=>exact hr.elim
  | k xs=>exact hr.elim
  | d xs =>
   obtain⟨p,us,rfl,h1,h2,h3⟩:=hr
   exact⟨p,rfl,zAK ev1 R1.lst h1⟩
  | e xs=>exact hr.elim
 cases ip with
 | none =>
  have Rc:Rep K ⟨H1,[],[]⟩ ⟨[],fun q=>∃ o,H1 q=some o⟩ (gs.map some) (vs.map some) H1:=by
   refine⟨by simp[hl,hgl],fun j g h=>?_,fun i j p ga gb ma mb h1 h2 h3 h4=>?_,fun p hp=>(nomatch hp),fun p hp=>(nomatch hp),fun p hp=>hp,fun p hp=>nofun,fun b o h _=>h,fun q hq=>(nomatch hq)⟩
   ·rw[List.getElem?_map]at h
    obtain⟨g',h',h⟩:=zAA h
    cases h
    obtain⟨s,a1,a2⟩:=zAN e2 h'
    obtain⟨v,b1,b2⟩:=o1.get a1
    refine⟨v,by rw[List.getElem?_map,b1]; rfl,?_⟩
    cases s with
    | v t=>cases a2; exact b2
    | l xs =>
     simp only[argG,reduceCtorEq,if_false,Option.some.injEq]at a2
     subst a2
     obtain⟨p,us,rfl,n1,n2,ow,h1,h2⟩:=b2
     exact⟨p,us,rfl,h2,h1,nofun,⟨_,h1⟩⟩
    | d xs =>
     simp only[argG,reduceCtorEq,if_false,Option.some.injEq]at a2
     subst a2
     obtain⟨p,us,rfl,n1,n2,ow,h1,h2⟩:=b2
     exact⟨p,us,rfl,h2,h1,nofun,⟨_,h1⟩⟩
    | s i =>
     unfold argG at a2
     dsimp only at a2
     split at a2
     ·rename_i xs hx
      simp only[reduceCtorEq,if_false,Option.some.injEq]at a2
      subst a2
      obtain⟨v',c1,p,us,rfl,c2,c3,c4⟩:=R1.val i _ hx
      have b2':σ[i]?=some (some v):=b2
      rw[b2']at c1; cases c1
      exact⟨p,us,rfl,c4,c3,nofun,⟨_,c3⟩⟩
     ·rename_i xs hx
      simp only[reduceCtorEq,if_false,Option.some.injEq]at a2
      subst a2
      obtain⟨v',c1,p,us,rfl,c2,c3⟩:=R1.val i _ hx
      have b2':σ[i]?=some (some v):=b2
      rw[b2']at c1; cases c1
      exact⟨p,us,rfl,c2,c3.1,nofun,R1.ra p c3.2.2⟩
     ·rename_i xs hx
      simp only[reduceCtorEq,if_false,Option.some.injEq]at a2
      subst a2
      obtain⟨v',c1,c2⟩:=R1.val i _ hx
      have b2':σ[i]?=some (some v):=b2
      rw[b2']at c1; cases c1
      exact c2
     ·rename_i xs hx
      simp only[reduceCtorEq,if_false,Option.some.injEq]at a2
      subst a2
      obtain⟨v',c1,p,us,rfl,c2,c3,c4⟩:=R1.val i _ hx
      have b2':σ[i]?=some (some v):=b2
      rw[b2']at c1; cases c1
      exact⟨p,us,rfl,c4,c3,nofun,⟨_,c3⟩⟩
     ·rename_i xs hx
      simp only[reduceCtorEq,if_false,Option.some.injEq]at a2
      subst a2
      obtain⟨v',c1,p,us,rfl,c2,c3⟩:=R1.val i _ hx
      have b2':σ[i]?=some (some v):=b2
      rw[b2']at c1; cases c1
      exact⟨p,us,rfl,c2,c3.1,nofun,R1.ra p c3.2.2⟩
     ·cases a2
   ·rw[List.getElem?_map]at h1
    obtain⟨g',h',h⟩:=zAA h1
    cases h
    obtain⟨s,a1,a2⟩:=zAN e2 h'
    cases s with
    | v t=>cases a2; cases ma
    | l xs=>simp[argG]at a2; subst a2; cases ma
    | d xs=>simp[argG]at a2; subst a2; cases ma
    | s i =>
     unfold argG at a2
     dsimp only at a2
     split at a2 <;> simp at a2 <;> (subst a2; cases ma)
  refine⟨hn,⟨[],fun q=>∃ o,H1 q=some o⟩,gs,r,ys,e3,Rc,rfl,(fun p hp=>nomatch hp),fun v H2 ev _ hr=>?_⟩
  have R2:Rep K C w Γ1 σ H2:=R1.evo0 fun b o h=>ev b o h nofun
  exact k v H2 R2 (ev1.trans fun b o h _=>ev b o h nofun) (resOk ev hr R1) (resNew hr)
 | some kk =>
  have hkk:∃ s,ss[kk]?=some s:=by
   unfold onceS at honce
   dsimp only at honce
   cases z:ss[kk]? with
   | none=>rw[z]at honce; cases honce
   | some s=>exact⟨s,rfl⟩
  obtain⟨sk,hsk⟩:=hkk
  have hkl:kk < ss.length:=(List.getElem?_eq_some_iff.mp hsk).1
  have hsk':ss'[kk]?=some sk:=by rw[← hss,List.getElem?_append_left hkl]; exact hsk
  obtain⟨vk,hvk,ok⟩:=o1.get hsk'
  have at_k:∃ p us xs,vk=.ref p/\H1 p=some (.lst us)/\Ims K H1 us xs/\argG (some kk) Γ1 kk sk=some (.l xs)/\((∃ i,sk=.s i/\Γ1[i]?=some (some (.l xs))/\σ[i]?=some (some (.ref p))/\p∈w.L)\/(sk=.l xs/\p∉w.L/\¬ w.R p/\Ow C p)):=by
   obtain⟨gk,hgk⟩:∃ g,gs[kk]?=some g:=⟨gs[kk]'(by rw[hgl,← hss]; simp; omega),by simp⟩
   obtain⟨s,a1,a2⟩:=zAN e2 hgk
   rw[hsk']at a1; cases a1
   rw[Nat.zero_add]at a2
   cases sk with
   | v t=>unfold onceS at honce; dsimp only at honce; rw[hsk]at honce; cases honce
   | l xs =>
    obtain⟨p,us,rfl,n1,n2,ow,h1,h2⟩:=ok
    exact⟨p,us,xs,rfl,h1,h2,by simp[argG],.inr ⟨rfl,n1,n2,ow⟩⟩
   | s i =>
    unfold argG at a2
    dsimp only at a2
    have ok':σ[i]?=some (some vk):=ok
    split at a2
    ·rename_i xs hx
     obtain⟨v',c1,p,us,rfl,c2,c3,c4⟩:=R1.val i _ hx
     rw[ok']at c1; cases c1
     exact⟨p,us,xs,rfl,c3,c4,by simp[argG,hx],.inl ⟨i,rfl,hx,ok',c2⟩⟩
    ·rw[if_pos rfl]at a2; cases a2
    ·rw[if_pos rfl]at a2; cases a2
    ·rw[if_pos rfl]at a2; cases a2
    ·rw[if_pos rfl]at a2; cases a2
    ·cases a2
   | d xs=>unfold onceS at honce; dsimp only at honce; rw[hsk]at honce; cases honce
  obtain⟨p,us,xs,rfl,hpu,hus,hag,hsort⟩:=at_k
  have other:∀ (j:Nat) s,j≠kk->ss'[j]?=some s->(∀ i xs',s=.s i->Γ1[i]?=some (some (.l xs'))->σ[i]?≠some (some (.ref p)))/\(∀ xs' q,s=.l xs'->SOk K C w σ H1 (.ref q) s->q≠p):=fun j s hj hs=>by
   rcases hsort with ⟨i0,rfl,g0,s0,m0⟩ | ⟨rfl,n1,n2,ow⟩
   ·refine⟨fun i xs' e hx z=>?_,fun xs' q e h z=>?_⟩
    ·subst e
     have:=R1.apart i0 i p _ _ rfl rfl g0 hx s0 z
     subst this
     have hjl:j < ss.length:=by
      rcases Nat.lt_or_ge j ss.length with z | z
      ·exact z
      ·rw[← hss,List.getElem?_append_right z,List.getElem?_map]at hs
       obtain⟨d,_,hs⟩:=zAA hs
       cases hs
     rw[← hss,List.getElem?_append_left hjl]at hs
     unfold onceS at honce
     dsimp only at honce
     rw[hsk]at honce
     have:=List.all_eq_true.mp honce (.s i0) (List.mem_eraseIdx_iff_getElem?.mpr ⟨j,hj,hs⟩)
     simp[isSl]at this
    ·subst e
     obtain⟨q',us'',e,n1,_⟩:=h
     cases e
     exact n1 (z ▸ m0)
   ·refine⟨fun i xs' e hx z=>?_,fun xs' q e h z=>?_⟩
    ·obtain⟨v',c1,p',us2,rfl,c2,_⟩:=R1.val i _ hx
     rw[z]at c1; cases c1
     exact n1 c2
    ·subst e
     have hjl:j < ss.length:=by
      rcases Nat.lt_or_ge j ss.length with z | z
      ·exact z
      ·rw[← hss,List.getElem?_append_right z,List.getElem?_map]at hs
       obtain⟨d,_,hs⟩:=zAA hs
       cases hs
     rw[← hss,List.getElem?_append_left hjl]at hs
     unfold onceS at honce
     dsimp only at honce
     rw[hsk]at honce
     have:=List.all_eq_true.mp honce _ (List.mem_eraseIdx_iff_getElem?.mpr ⟨j,hj,hs⟩)
     simp[isTmp]at this
  have hpins:pinsG (some kk) vs=[(kk,p)]:=by unfold pinsG; dsimp only; rw[hvk]
  have Rc:Rep K ⟨H1,[p],[(kk,p)]⟩ ⟨[p],fun q=>(∃ o,H1 q=some o)/\q≠p⟩ (gs.map some) (vs.map some) H1:=by
   have get:∀ {j:Nat} {g:G},(gs.map some)[j]?=some (some g)->∃ s,ss'[j]?=some s/\argG (some kk) Γ1 j s=some g:=fun {j g} h=>by
    rw[List.getElem?_map]at h
    obtain⟨g',h',h⟩:=zAA h
    cases h
    obtain⟨s,a1,a2⟩:=zAN e2 h'
    exact⟨s,a1,by rw[Nat.zero_add]at a2; exact a2⟩
   have only:∀ {j:Nat} {gc:G},isMut gc=true->(gs.map some)[j]?=some (some gc)->j=kk:=fun {j gc} mc h=>by
    obtain⟨s,a1,a2⟩:=get h
    by_cases hj:kk=j
    ·exact hj.symm
    ·cases s with
     | v t=>cases a2; cases mc
     | l xs=>simp[argG,hj]at a2; subst a2; cases mc
     | d xs=>simp[argG,hj]at a2; subst a2; cases mc
     | s i =>
      unfold argG at a2
      dsimp only at a2
      split at a2 <;> simp[hj]at a2 <;> (subst a2; cases mc)
   refine⟨by simp[hl,hgl],fun j g h=>?_,fun i j p' ga gb ma mb h1 h2 h3 h4=>(only ma h1).trans (only mb h2).symm,fun q hq=>?_,fun q hq=>.inl hq,fun q hq=>hq.1,fun q hq z=>hq.2 (List.mem_singleton.mp z),fun b o h _=>h,fun q hq=>?_⟩
   ·obtain⟨s,a1,a2⟩:=get h
    obtain⟨v,b1,b2⟩:=o1.get a1
    refine⟨v,by rw[List.getElem?_map,b1]; rfl,?_⟩
    by_cases hj:j=kk
    ·subst hj
     rw[hsk']at a1; cases a1
     rw[hag]at a2; cases a2
     rw[hvk]at b1; cases b1
     exact⟨p,us,rfl,List.mem_singleton.mpr rfl,hpu,hus⟩
    ·have hj':¬ kk=j:=fun z=>hj z.symm
     obtain⟨x1,x2⟩:=other j s hj a1
     cases s with
     | v t=>cases a2; exact b2
     | l xs' =>
      simp only[argG,Option.some.injEq,hj',if_false]at a2
      subst a2
      have b3:=b2
      obtain⟨q,us',rfl,n1,n2,ow,h1,h2⟩:=b2
      have hne:q≠p:=x2 xs' q rfl b3
      exact⟨q,us',rfl,h2,h1,fun z=>hne (List.mem_singleton.mp z),⟨_,h1⟩,hne⟩
     | s i =>
      have b2':σ[i]?=some (some v):=b2
      unfold argG at a2
      dsimp only at a2
      split at a2
      ·rename_i xs' hx
       simp only[Option.some.injEq,hj',if_false]at a2
       subst a2
       obtain⟨v',c1,q,us',rfl,c2,c3,c4⟩:=R1.val i _ hx
       rw[b2']at c1; cases c1
       have hne:q≠p:=fun z=>x1 i xs' rfl hx (z ▸ b2')
       exact⟨q,us',rfl,c4,c3,fun z=>hne (List.mem_singleton.mp z),⟨_,c3⟩,hne⟩
      ·rename_i xs' hx
       simp only[Option.some.injEq,hj',if_false]at a2
       subst a2
       obtain⟨v',c1,q,us',rfl,c2,c3⟩:=R1.val i _ hx
       rw[b2']at c1; cases c1
       have hne:q≠p:=fun z=>by
        subst z
        rcases hsort with ⟨_,_,_,_,m0⟩ | ⟨_,n1,n2,ow⟩
        ·exact c3.2.1 m0
        ·exact n2 c3.2.2
       exact⟨q,us',rfl,c2,c3.1,fun z=>hne (List.mem_singleton.mp z),R1.ra q c3.2.2,hne⟩
      ·rename_i xs' hx
       simp only[Option.some.injEq,hj',if_false]at a2
       subst a2
       obtain⟨v',c1,c2⟩:=R1.val i _ hx
       rw[b2']at c1; cases c1
       exact c2
      ·rename_i xs' hx
       simp only[Option.some.injEq,hj',if_false]at a2
       subst a2
       obtain⟨v',c1,q,us',rfl,c2,c3,c4⟩:=R1.val i _ hx
       rw[b2']at c1; cases c1
       have hne:q≠p:=fun z=>by subst z; rw[hpu]at c3; cases c3; exact zCe c4
       exact⟨q,us',rfl,c4,c3,fun z=>hne (List.mem_singleton.mp z),⟨_,c3⟩,hne⟩
      ·rename_i xs' hx
       simp only[Option.some.injEq,hj',if_false]at a2
       subst a2
       obtain⟨v',c1,q,us',rfl,c2,c3⟩:=R1.val i _ hx
       rw[b2']at c1; cases c1
       have hne:q≠p:=fun z=>by subst z; have c4:=c3.1; rw[hpu]at c4; cases c4; exact zCe c2
       exact⟨q,us',rfl,c2,c3.1,fun z=>hne (List.mem_singleton.mp z),R1.ra q c3.2.2,hne⟩
      ·cases a2
     | d xs' =>
      simp only[argG,Option.some.injEq,hj',if_false]at a2
      subst a2
      obtain⟨q,us',rfl,n1,n2,ow,h1,h2⟩:=b2
      have hne:q≠p:=fun z=>by subst z; rw[hpu]at h1; cases h1; exact zCe h2
      exact⟨q,us',rfl,h2,h1,fun z=>hne (List.mem_singleton.mp z),⟨_,h1⟩,hne⟩
   ·rw[List.mem_singleton.mp hq]; exact⟨_,hpu,trivial⟩
   ·rw[List.mem_singleton.mp hq]
    refine⟨by rw[List.getElem?_map,hvk]; rfl,xs,?_⟩
    obtain⟨gk,hgk⟩:∃ g,gs[kk]?=some g:=⟨gs[kk]'(by rw[hgl,← hss]; simp; omega),by simp⟩
    obtain⟨s,a1,a2⟩:=zAN e2 hgk
    rw[hsk']at a1; cases a1
    rw[Nat.zero_add,hag]at a2; cases a2
    rw[List.getElem?_map,hgk]; rfl
  refine⟨hn,⟨[p],fun q=>(∃ o,H1 q=some o)/\q≠p⟩,gs,r,ys,e3,by rw[hpins]; exact Rc,by rw[hpins]; rfl,by rw[hpins]; exact fun q hq=>hq,fun v H2 ev hch hr=>?_⟩
  rw[hpins]at hch
  obtain⟨us2,hp2,hu2⟩:=hch (kk,p) (List.mem_singleton.mpr rfl)
  rcases hsort with ⟨i0,rfl,g0,s0,m0⟩ | ⟨rfl,n1,n2,ow⟩
  ·obtain⟨R2,ev2⟩:=R1.put2 g0 s0 ev hp2 hu2
   have hb:backS (some kk) Γ1 ss ys=Γ1.set i0 (some (.l ys)):=by unfold backS; dsimp only; rw[hsk]
   dsimp only at k
   rw[hb]at k
   exact k v H2 R2 (ev1.trans ev2) (resOk ev hr R1) (resNew hr)
  ·have hb:backS (some kk) Γ1 ss ys=Γ1:=by unfold backS; dsimp only; rw[hsk]
   dsimp only at k
   rw[hb]at k
   have R2:=R1.temp n1 n2 ow ⟨_,hpu,trivial⟩ ev
   refine k v H2 R2 (fun b o h n=>?_) (resOk ev hr R1) (resNew hr)
   by_cases z:b=p
   ·subst z
    have hv0:vs0[kk]?=some (.ref b):=by
     rw[← hvs,List.getElem?_append_left (by rw[hl0]; exact hkl)]at hvk; exact hvk
    obtain⟨p',e',hn'⟩:=n0.get hv0 hsk
    cases e'
    rw[hn']at h; cases h
   ·exact ev b o (ev1 b o h n) fun q=>z (List.mem_singleton.mp q)
end
def lsOf(Γ:En):S->Option (List T)
 | .l xs=>some xs
 | .s i=>match Γ[i]? with
  | some (some (.l xs))=>some xs
  | some (some (.r xs))=>some xs
  | _=>none
 | .v _=>none
 | .d _=>none
def sqlOf(Γ:En):S->Option (List T)
 | .l xs=>some xs
 | .s i=>match Γ[i]? with
  | some (some (.l xs))=>some xs
  | some (some (.r xs))=>some xs
  | some (some (.k xs))=>some xs
  | _=>none
 | .v (.l xs)=>some xs
 | .v _=>none
 | .d _=>none
section
variable {K:Fg}{C:Fr}{w:W}{Γ:En}{σ:St}{H:Hp}
theorem zFG{x:V}{s:S}{xs:List T}(R:Rep K C w Γ σ H)(o:SOk K C w σ H x s)(e:lsOf Γ s=some xs):∃ p vs,x=.ref p/\H p=some (.lst vs)/\Ims K H vs xs:=by
 cases s with
 | v t=>cases e
 | d _=>cases e
 | l ys=>cases e; obtain⟨p,vs,rfl,_,_,_,h1,h2⟩:=o; exact⟨p,vs,rfl,h1,h2⟩
 | s i =>
  have o':σ[i]?=some (some x):=o
  unfold lsOf at e
  dsimp only at e
  split at e
  ·rename_i ys h
   cases e
   obtain⟨v,e1,p,vs,rfl,_,h1,h2⟩:=R.val i _ h
   rw[o']at e1; cases e1
   exact⟨p,vs,rfl,h1,h2⟩
  ·rename_i ys h
   cases e
   obtain⟨v,e1,p,vs,rfl,h1,h2,_⟩:=R.val i _ h
   rw[o']at e1; cases e1
   exact⟨p,vs,rfl,h2,h1⟩
  ·cases e
theorem zAY{x:V}{s:S}{xs:List T}(R:Rep K C w Γ σ H)(o:SOk K C w σ H x s)(e:sqlOf Γ s=some xs):∃ p vs,x=.ref p/\SqL K H p vs/\Ims K H vs xs:=by
 cases s with
 | v t =>
  cases t with
  | l ys =>
   cases e
   obtain⟨p,vs,rfl,h1,h2⟩:=(show Im K H x (.l xs) from o).invl
   exact⟨p,vs,rfl,h1.sq,h2⟩
  | a _=>cases e
  | t _=>cases e
  | f _=>cases e
  | x _ _=>cases e
 | d _=>cases e
 | l ys=>cases e; obtain⟨p,vs,rfl,_,_,_,h1,h2⟩:=o; exact⟨p,vs,rfl,SqL.of h1,h2⟩
 | s i =>
  have o':σ[i]?=some (some x):=o
  unfold sqlOf at e
  dsimp only at e
  split at e
  ·rename_i ys h
   cases e
   obtain⟨v,e1,p,vs,rfl,_,h1,h2⟩:=R.val i _ h
   rw[o']at e1; cases e1
   exact⟨p,vs,rfl,SqL.of h1,h2⟩
  ·rename_i ys h
   cases e
   obtain⟨v,e1,p,vs,rfl,h1,h2,_⟩:=R.val i _ h
   rw[o']at e1; cases e1
   exact⟨p,vs,rfl,SqL.of h2,h1⟩
  ·rename_i ys h
   cases e
   obtain⟨v,e1,p,vs,rfl,h1,h2⟩:=R.val i _ h
   rw[o']at e1; cases e1
   exact⟨p,vs,rfl,h2.sq,h1⟩
  ·cases e
end
def iS:S->Option Int
 | .v (.a (.int i))=>some i
 | _=>none
def mkI(i:Int):S:=.v (.a (.int i))
def mkB(b:Bool):S:=.v (.a (.bl b))
section
variable {K:Fg}{C:Fr}{w:W}{Γ:En}{σ:St}{H:Hp}
theorem zAe{x:V}{s:S}{i:Int}(o:SOk K C w σ H x s)(e:iS s=some i):x=.int i:=by
 unfold iS at e
 split at e
 ·cases e; exact o.inva
 ·cases e
end
def inR(b:Nat):Int->Bool
 | .ofNat n=>Nat.ble n b
 | .negSucc n=>Nat.ble n b
theorem zBf{b:Nat}{i:Int}:inR b i=true ↔ -((b:Int)+1)<=i/\i<=b:=by
 cases i with
 | ofNat n =>
  simp only[inR,Nat.ble_eq,Int.ofNat_eq_natCast]
  omega
 | negSucc n =>
  simp only[inR,Nat.ble_eq,Int.negSucc_eq]
  omega
theorem inR62{i:Int}(h:inR 4611686018427387903 i=true):-(2 ^ 62)<=i/\i < 2 ^ 62:=by have:=zBf.mp h; omega
theorem inR63{i:Int}(h:inR 9223372036854775807 i=true):-(2 ^ 63)<=i/\i < 2 ^ 63:=by have:=zBf.mp h; omega
theorem zBg{b n:Nat}(h:n<=b):inR b (n:Int)=true:=zBf.mpr ⟨by omega,by omega⟩
def opII(g:Int->Int->V):En->S->S->Option S:=fun _ a b=>(iS a).bind fun i=>(iS b).bind fun j=>some (.v (.a (g i j)))
def opIIc(c:Int->Int->Prop) [∀ i j,Decidable (c i j)] (g:Int->Int->V):En->S->S->Option S:=fun _ a b=>(iS a).bind fun i=>(iS b).bind fun j=>if c i j then some (.v (.a (g i j))) else none
theorem zAm{K:Fg}{g:Int->Int->V}:SimR2 K (rI0 g) (opII g):=by
 intro C w Γ σ H x y a b s Q R ox oy e k
 obtain⟨i,e1,e⟩:=bind_some e
 obtain⟨j,e2,e⟩:=bind_some e
 cases e
 exact⟨i,j,zAe ox e1,zAe oy e2,k _ H R .refl SOk.atom trivial⟩
theorem zA4{K:Fg}{c:Int->Int->Prop} [∀ i j,Decidable (c i j)] {g:Int->Int->V}:SimR2 K (rI c g) (opIIc c g):=by
 intro C w Γ σ H x y a b s Q R ox oy e k
 obtain⟨i,e1,e⟩:=bind_some e
 obtain⟨j,e2,e⟩:=bind_some e
 split at e
 ·rename_i hc
  cases e
  exact⟨i,j,zAe ox e1,zAe oy e2,hc,k _ H R .refl SOk.atom trivial⟩
 ·cases e
theorem zIs{i j:Int}:((inR 18446744073709551615 i && inR 18446744073709551615 (-i)) || (inR 18446744073709551615 j && inR 18446744073709551615 (-j)))=true ↔ CMul i j:=by
 unfold CMul
 simp only[Bool.or_eq_true,Bool.and_eq_true,zBf]
 omega
instance (i j:Int):Decidable (CMul i j):=decidable_of_iff _ zIs
instance (i j:Int):Decidable (CDiv i j):=by unfold CDiv; infer_instance
instance (i j:Int):Decidable (CPow i j):=by unfold CPow; infer_instance
theorem SimR2.or{K:Fg}{r r':R2}{h h':En->S->S->Option S}(a:SimR2 K r h)(b:SimR2 K r' h'):SimR2 K (fun x y H Q=>r x y H Q\/r' x y H Q) (fun Γ x y=>(h Γ x y).or (h' Γ x y)):=by
 intro C w Γ σ H x y s1 s2 s Q R ox oy e k
 dsimp only at e
 cases q:h Γ s1 s2 with
 | some z =>
  rw[q,Option.some_or]at e
  cases e
  exact .inl (a C w Γ σ H x y s1 s2 _ Q R ox oy q k)
 | none =>
  rw[q,Option.none_or]at e
  exact .inr (b C w Γ σ H x y s1 s2 _ Q R ox oy e k)
def addStr:En->S->S->Option S:=fun _ a b=>match a,b with
 | .v (.a (.str x)),.v (.a (.str y))=>gd (x.length+y.length) (.v (.a (.str (x++y))))
 | _,_=>none
def rAddStr:R2:=fun x y H Q=>∃ i j,x=.str i/\y=.str j/\i.length+j.length<=sizeLine/\Q (.str (i++j)) H
theorem zEC{K:Fg}:SimR2 K rAddStr addStr:=by
 intro C w Γ σ H x y a b s Q R ox oy e k
 unfold addStr at e
 split at e
 ·obtain⟨h,e⟩:=zAZ e
  cases e
  exact⟨_,_,ox.inva,oy.inva,h,k _ H R .refl SOk.atom trivial⟩
 ·cases e
def rCatS(K:Fg):R2:=fun x y H Q=>∃ a b xs ys,x=.ref a/\y=.ref b/\Tp K H a xs/\Tp K H b ys/\xs.length+ys.length<=sizeLine/\∀ p H',Same H H'->Tp K H' p (xs++ys)->Q (.ref p) H'
open PySem.Spec PyProof.Rows in
theorem zI5{X:Cx}:OpR X (binaryOp .Add) (rCatS X.K):=by
 intro pins s σ H x y v u Q I rx ry h
 obtain⟨a,b,xs,ys,rfl,rfl,ha,hb,hz,q⟩:=h
 cases rx
 cases ry
 obtain⟨its,r1,t1,z1⟩:=I.tuple ha.sq
 obtain⟨its2,r2,t2,z2⟩:=I.tuple hb.sq
 by_cases hx:xs=[]
 ·subst hx
  have e:its=[]:=by have:=r1.length; simpa using this.symm
  subst e
  obtain⟨⟨cls,dd,data,sl⟩,ho,hc,n,hd⟩:=id t1
  obtain⟨⟨cls2,dd2,data2,sl2⟩,ho2,hc2,n2,hd2⟩:=id t2
  simp only at hc hd hc2 hd2
  subst hc hd hc2 hd2
  refine concat_meets ⟨_,ho,rfl⟩ ⟨_,ho2,rfl⟩ noFill_tuple_add seq_tuple_add PySem.F.slot_tuple_add PySem.F.entry_tuple_add (PySem.F.args_tuple_add_2 _ _)
   (tuple_addW0 a b _ its2.toArray n n2 dd dd2 sl sl2 (by simp)) ⟨ho,ho2,?_⟩
  exact⟨.ref b,H,I,rfl,q b H (Same.refl H) (by simpa using hb)⟩
 ·have hne:its≠[]:=fun e=>hx (by have:=r1.length; rw[e]at this; simpa using this)
  refine HT.cat_tup t1 t2 hne (fun e=>?_) (fun e=>?_) (by rw[← r1.length,← r2.length]; exact hz)
  ·have ey:ys=[]:=by have:=r2.length; rw[e]at this; simpa using this
   subst ey
   exact⟨.ref a,H,I,rfl,q a H (Same.refl H) (by simpa using ha)⟩
  ·have hf:H s.heap.objs.size=none:=I.hok.fresh (Nat.le_refl _)
   refine⟨.ref s.heap.objs.size,_,I.laid (t':=s.toks) (fun b o e=>Heap.get?_push_of_some _ e) (Nat.le_refl _) (show ObjOk X.prog X.w _ _ _ (.tup (xs++ys)) from ⟨by simpa using hz,its++its2,r1.append r2,TupD.new _ _⟩),rfl,q _ _ (Same.upd hf) (.inl zAF)⟩
def addTup:En->S->S->Option S:=fun _ a b=>match a,b with
 | .v (.t xs),.v (.t ys)=>gd (xs.length+ys.length) (.v (.t (xs++ys)))
 | _,_=>none
theorem zDb{K:Fg}:SimR2 K (rCatS K) addTup:=by
 intro C w Γ σ H x y a b s Q R ox oy e k
 unfold addTup at e
 split at e
 ·obtain⟨h,e⟩:=zAZ e
  cases e
  obtain⟨p,vs,rfl,h1,i1⟩:=ox.invt
  obtain⟨q,us,rfl,h2,i2⟩:=oy.invt
  refine⟨p,q,vs,us,rfl,rfl,h1,h2,by rw[i1.len,i2.len]; exact h,fun c H' sm hc=>k _ H' (R.same sm) (.of_same sm) ?_ trivial⟩
  have ev:Evo w.L H H':=.of_same sm
  show Im K H' (.ref c) (.t _)
  unfold Im
  exact⟨c,_,rfl,hc,(i1.evo ev R.lst).app (i2.evo ev R.lst)⟩
 ·cases e
def addLst:En->S->S->Option S:=fun Γ a b=>(lsOf Γ a).bind fun xs=>(lsOf Γ b).bind fun ys=>gd (xs.length+ys.length) (.l (xs++ys))
theorem zDf{K:Fg}:SimR2 K rCat addLst:=by
 intro C w Γ σ H x y a b s Q R ox oy e k
 obtain⟨xs,e1,e⟩:=bind_some e
 obtain⟨ys,e2,e⟩:=bind_some e
 obtain⟨h,e⟩:=zAZ e
 cases e
 obtain⟨p,vs,rfl,h1,i1⟩:=zFG R ox e1
 obtain⟨q,us,rfl,h2,i2⟩:=zFG R oy e2
 exact⟨p,q,vs,us,rfl,rfl,h1,h2,by rw[i1.len,i2.len]; exact h,fun c hc=>k _ _ (R.new hc) (Evo.new hc) (R.newl hc (i1.app i2)) ⟨c,rfl,hc⟩⟩
def addS:En->S->S->Option S:=fun Γ x y=>((opII fun i j=>.int (i+j)) Γ x y).or ((addTup Γ x y).or ((addLst Γ x y).or (addStr Γ x y)))
def rAddS(K:Fg):R2:=fun x y H Q=>rI0 (fun i j=>.int (i+j)) x y H Q\/rCatS K x y H Q\/rCat x y H Q\/rAddStr x y H Q
theorem zF1{K:Fg}:SimR2 K (rAddS K) addS:=zAm.or (zDb.or (zDf.or zEC))
theorem zIN{X:Cx}:OpR X (binaryOp .Add) (rAddS X.K):=zJs.or (zI5.or (zJP.or zFe))
def fitM(n:Nat)(k:Int):Bool:=inR 9223372036854775807 k && Nat.ble (n * k.toNat) sizeLine
def mulLst:En->S->S->Option S:=fun Γ a b=>(lsOf Γ a).bind fun xs=>(iS b).bind fun k=>if fitM xs.length k=true then some (.l (List.replicate k.toNat xs).flatten) else none
theorem Ims.rep{K:Fg}{H:Hp}{vs:List V}{ts:List T}(h:Ims K H vs ts):∀ n:Nat,Ims K H (List.replicate n vs).flatten (List.replicate n ts).flatten
 | 0=>.nil
 | n+1=>by rw[List.replicate_succ,List.replicate_succ,List.flatten_cons,List.flatten_cons]; exact h.app (h.rep n)
theorem zDx{K:Fg}:SimR2 K rRep mulLst:=by
 intro C w Γ σ H x y a b s Q R ox oy e k
 obtain⟨xs,e1,e⟩:=bind_some e
 obtain⟨n,e2,e⟩:=bind_some e
 split at e
 ·rename_i h
  cases e
  unfold fitM at h
  rw[Bool.and_eq_true]at h
  have h0:=inR63 h.1
  have h3:=Nat.le_of_ble_eq_true h.2
  obtain⟨p,vs,rfl,h1,i1⟩:=zFG R ox e1
  exact⟨p,n,vs,rfl,zAe oy e2,h1,h0.1,h0.2,by rw[i1.len]; exact h3,fun c hc=>k _ _ (R.new hc) (Evo.new hc) (R.newl hc (i1.rep _)) ⟨c,rfl,hc⟩⟩
 ·cases e
def mulS:En->S->S->Option S:=fun Γ x y=>(opIIc CMul (fun i j=>.int (i * j)) Γ x y).or (mulLst Γ x y)
def rMulS:R2:=fun x y H Q=>rI CMul (fun i j=>.int (i * j)) x y H Q\/rRep x y H Q
theorem zGL{K:Fg}:SimR2 K rMulS mulS:=zA4.or zDx
theorem zIk{X:Cx}:OpR X (binaryOp .Mult) rMulS:=zJG.or zJk
def modS:En->S->S->Option S:=opIIc (fun _ j=>0 < j) fun i j=>.int (i % j)
def fdivS:En->S->S->Option S:=opIIc CDiv fun i j=>.int (i / j)
def powS:En->S->S->Option S:=opIIc CPow fun i j=>.int (i ^ j.toNat)
def subS:En->S->S->Option S:=opII fun i j=>.int (i - j)
def ltS:En->S->S->Option S:=opII fun i j=>.bl (decide (i < j))
def leS:En->S->S->Option S:=opII fun i j=>.bl (decide (i<=j))
def gtS:En->S->S->Option S:=opII fun i j=>.bl (decide (j < i))
def geS:En->S->S->Option S:=opII fun i j=>.bl (decide (j<=i))
def negS:En->S->Option S:=fun _ a=>(iS a).map fun i=>mkI (-i)
theorem zGq{K:Fg}:SimR1 K (rU fun i=>.int (-i)) negS:=by
 intro C w Γ σ H x a s Q R ox e k
 obtain⟨i,e1,e⟩:=zAA e
 cases e
 exact⟨i,zAe ox e1,k _ H R .refl SOk.atom trivial⟩
def ixS:En->S->S->Option S:=fun Γ a b=>(iS b).bind fun i=>match a with
 | .v (.t xs)=>(atI xs i).map .v
 | .v (.a (.str z))=>if z.length<=sizeLine then (atI z.cps.toList i).map fun c=>.v (.a (.str ⟨#[c]⟩)) else none
 | a=>(sqlOf Γ a).bind fun xs=>(atI xs i).map .v
theorem zEj{K:Fg}{H:Hp}{vs:List V}{ts:List T}{i:Int}{t:T}(h:Ims K H vs ts)(e:atI ts i=some t):∃ v,atI vs i=some v/\Im K H v t:=by
 unfold atI at e ⊢
 rw[h.len]
 obtain⟨j,e1,e⟩:=bind_some e
 obtain⟨v,e2,hv⟩:=h.get e
 exact⟨v,by rw[e1]; exact e2,hv⟩
theorem zHa{K:Fg}:SimR2 K (rIx K) ixS:=by
 intro C w Γ σ H x y a b s Q R ox oy e k
 obtain⟨i,e1,e⟩:=bind_some e
 have hy:=zAe oy e1
 split at e
 ·rename_i xs
  obtain⟨t,e2,e⟩:=zAA e
  cases e
  obtain⟨p,vs,rfl,h1,i1⟩:=ox.invt
  obtain⟨v,e3,hv⟩:=zEj i1 e2
  exact .inr (.inl ⟨p,vs,i,v,rfl,hy,h1.sq,e3,k v H R .refl hv trivial⟩)
 ·rename_i z
  split at e
  ·rename_i hz
   obtain⟨c,e2,e⟩:=zAA e
   cases e
   exact .inr (.inr ⟨_,i,c,ox.inva,hy,hz,e2,k _ H R .refl SOk.atom trivial⟩)
  ·cases e
 ·obtain⟨xs,e2,e⟩:=bind_some e
  obtain⟨t,e3,e⟩:=zAA e
  cases e
  obtain⟨p,vs,rfl,h1,i1⟩:=zAY R ox e2
  obtain⟨v,e4,hv⟩:=zEj i1 e3
  exact .inl ⟨p,vs,i,v,rfl,hy,h1,e4,k v H R .refl hv trivial⟩
def lenS:En->List S->Option S:=fun Γ as=>match as with
 | [.v (.t xs)]=>some (mkI xs.length)
 | [.v (.a (.str z))]=>if z.length<=sizeLine then some (mkI z.length) else none
 | [a]=>(sqlOf Γ a).map fun xs=>mkI xs.length
 | _=>none
def rLenS(K:Fg):List V->Hp->VK->Prop:=fun xs H Q=>(∃ p ys,xs=[.ref p]/\(SqL K H p ys\/SqT K H p ys)/\Q (.int ys.length) H)\/(∃ z,xs=[.str z]/\z.length<=sizeLine/\Q (.int z.length) H)
theorem soks1{K:Fg}{C:Fr}{w:W}{σ:St}{H:Hp}{vs:List V}{a:S}(h:SOks K C w σ H vs [a]):∃ v,vs=[v]/\SOk K C w σ H v a:=by
 match vs,h with
 | [v],h=>exact⟨v,rfl,h.1⟩
theorem soks2{K:Fg}{C:Fr}{w:W}{σ:St}{H:Hp}{vs:List V}{a b:S}(h:SOks K C w σ H vs [a,b]):∃ v u,vs=[v,u]/\SOk K C w σ H v a/\SOk K C w σ H u b:=by
 match vs,h with
 | [v,u],h=>exact⟨v,u,rfl,h.1,h.2.1⟩
theorem zF2{K:Fg}:SimRs K (rLenS K) lenS:=by
 intro C w Γ σ H vs as s Q R o e k
 unfold lenS at e
 split at e
 ·cases e
  obtain⟨v,rfl,o1⟩:=soks1 o
  obtain⟨p,us,rfl,h1,i1⟩:=o1.invt
  refine .inl ⟨p,us,rfl,.inr h1.sq,?_⟩
  rw[i1.len]
  exact k _ H R .refl SOk.atom trivial
 ·rename_i z
  split at e
  ·rename_i hz
   cases e
   obtain⟨v,rfl,o1⟩:=soks1 o
   exact .inr ⟨z,by rw[o1.inva],hz,k _ H R .refl SOk.atom trivial⟩
  ·cases e
 ·obtain⟨xs,e1,e⟩:=zAA e
  cases e
  obtain⟨v,rfl,o1⟩:=soks1 o
  obtain⟨p,us,rfl,h1,i1⟩:=zAY R o1 e1
  refine .inl ⟨p,us,rfl,.inl h1,?_⟩
  rw[i1.len]
  exact k _ H R .refl SOk.atom trivial
 ·cases e
theorem zGf{X:Cx}:CallR X (.builtin "len") (rLenS X.K):=zEG.or zEK
def seqS(Γ:En):S->Option (List T)
 | .v (.t xs)=>some xs
 | a=>sqlOf Γ a
theorem zFo{K:Fg}{C:Fr}{w:W}{Γ:En}{σ:St}{H:Hp}{x:V}{s:S}{xs:List T}(R:Rep K C w Γ σ H)(o:SOk K C w σ H x s)(e:seqS Γ s=some xs):∃ p vs,x=.ref p/\(SqL K H p vs\/SqT K H p vs)/\Ims K H vs xs:=by
 unfold seqS at e
 split at e
 ·cases e
  obtain⟨p,us,rfl,h1,i1⟩:=o.invt
  exact⟨p,us,rfl,.inr h1.sq,i1⟩
 ·obtain⟨p,us,rfl,h1,i1⟩:=zAY R o e
  exact⟨p,us,rfl,.inl h1,i1⟩
def listS:En->List S->Option S:=fun Γ as=>match as with
 | [a]=>(seqS Γ a).map .l
 | _=>none
def tupleS:En->List S->Option S:=fun Γ as=>match as with
 | [.v (.t xs)]=>some (.v (.t xs))
 | [a]=>(sqlOf Γ a).map fun xs=>.v (.t xs)
 | _=>none
theorem zER{K:Fg}:SimRs K (fun xs H Q=>∃ p ys,xs=[.ref p]/\((SqL K H p ys/\∀ l,H l=none->Q (.ref l) (upd H l (.tup ys)))\/(SqT K H p ys/\Q (.ref p) H))) tupleS:=by
 intro C w Γ σ H vs as s Q R o e k
 unfold tupleS at e
 split at e
 ·cases e
  obtain⟨v,rfl,o1⟩:=soks1 o
  have o2:=o1
  obtain⟨p,us,rfl,h1,i1⟩:=o1.invt
  exact⟨p,us,rfl,.inr ⟨h1.sq,k _ H R .refl o2 trivial⟩⟩
 ·obtain⟨xs,e1,e⟩:=zAA e
  cases e
  obtain⟨v,rfl,o1⟩:=soks1 o
  obtain⟨p,us,rfl,h1,i1⟩:=zAY R o1 e1
  exact⟨p,us,rfl,.inl ⟨h1,fun l hl=>k _ _ (R.new hl) (Evo.new hl) (R.newt hl i1) trivial⟩⟩
 ·cases e
abbrev DO:=En->Option (Option Int×En)
def SimO(K:Fg)(t:TO)(f:DO):Prop:=∀ (C:Fr) (w:W) (Γ:En) (σ:St) (H:Hp) (i:Option Int) (Γ':En) (Q:Option Int->Hp->Prop),Rep K C w Γ σ H->f Γ=some (i,Γ')->(∀ H',Rep K C w Γ' σ H'->Evo w.L H H'->Q i H')->t σ H Q
def dNoPart:DO:=fun Γ=>some (none,Γ)
def dPart(f:DE):DO:=fun Γ=>(f Γ).bind fun p=>(iS p.1).map fun i=>(some i,p.2)
theorem zE7{K:Fg}:SimO K tNoPart dNoPart:=fun C w Γ σ H i Γ' Q R e k=>by cases e; exact k H R .refl
theorem zHb{K:Fg}{t:TE}{f:DE}(h:SimE K t f):SimO K (tPart t) (dPart f):=by
 intro C w Γ σ H i Γ' Q R e k
 obtain⟨p,e1,e⟩:=bind_some e
 obtain⟨i,e2,e⟩:=zAA e
 cases e
 exact h C w Γ σ H p.1 p.2 _ R e1 fun v H1 R1 ev o _=>⟨i,zAe o e2,k H1 R1 ev⟩
def cutT(xs:List T)(lo hi:Option Int):List T:=(xs.drop (HT.sIx xs.length 0 lo)).take (HT.sIx xs.length xs.length hi - HT.sIx xs.length 0 lo)
theorem Ims.cut{K:Fg}{H:Hp}{vs:List V}{ts:List T}(h:Ims K H vs ts)(lo hi:Option Int):Ims K H (cutV vs lo hi) (cutT ts lo hi):=by
 unfold cutV cutT
 rw[h.len]
 exact (h.drop _).take _
def slS(Γ:En)(lo hi:Option Int):S->Option S
 | .v (.t xs)=>some (.v (.t (cutT xs lo hi)))
 | .v (.a _)=>none
 | a=>(sqlOf Γ a).map fun xs=>.l (cutT xs lo hi)
def dSl(f:DE)(lo hi:DO):DE:=fun Γ=>(f Γ).bind fun p=>(lo p.2).bind fun l=>(hi l.2).bind fun h=>(slS h.2 l.1 h.1 p.1).map fun s=>(s,h.2)
def rSlTS(K:Fg):V->Option Int->Option Int->Hp->VK->Prop:=fun x lo hi H Q=>∃ a xs,x=.ref a/\Tp K H a xs/\∀ p H',Same H H'->Tp K H' p (cutV xs lo hi)->Q (.ref p) H'
theorem zIT{X:Cx}:SlR X (rSlTS X.K):=by
 intro pins s σ H x v vl vu lo hi sl Q I rx hs pl pu h
 obtain⟨a,xs,rfl,hx,q⟩:=h
 cases rx
 obtain⟨its,r,ht,hz⟩:=I.tuple hx.sq
 have hlen:its.toArray.size=xs.length:=by rw[List.size_toArray]; exact r.length.symm
 refine⟨"tuple",_,PyProof.Rows.slot_tuple_getitem.lookup,ht.typeIs,?_⟩
 by_cases hw:HT.sIx xs.length 0 lo=0/\HT.sIx xs.length xs.length hi=xs.length
 ·refine zBJ ht hs pl pu (by rw[hlen]; exact hw) ⟨.ref a,H,I,rfl,q a H (Same.refl H) ?_⟩
  unfold cutV
  rw[hw.1,hw.2,List.drop_zero,Nat.sub_zero,List.take_of_length_le (Nat.le_refl _)]
  exact hx
 ·refine HT.qY ht hs pl pu (by rw[hlen]; exact hw) ?_ (by rw[hlen]; exact hz)
  rw[hlen]
  have hf:H s.heap.objs.size=none:=I.hok.fresh (Nat.le_refl _)
  refine⟨.ref s.heap.objs.size,_,I.laid (t':=s.toks) (o:=.tup (cutV xs lo hi)) (fun b ob q=>Heap.get?_push_of_some _ q) (Nat.le_refl _) ?_,rfl,q _ _ (Same.upd hf) (.inl zAF)⟩
  exact⟨Nat.le_trans (zBq xs lo hi) hz,_,(r.drop (HT.sIx xs.length 0 lo)).take (HT.sIx xs.length xs.length hi - HT.sIx xs.length 0 lo),TupD.new _ _⟩
def rSlS(K:Fg):V->Option Int->Option Int->Hp->VK->Prop:=fun x lo hi H Q=>rSlTS K x lo hi H Q\/rSlL K x lo hi H Q
theorem sl_S{X:Cx}:SlR X (rSlS X.K):=zIT.or zIr
theorem zJO{K:Fg}{te:TE}{f:DE}{tl th:TO}{lo hi:DO}(he:SimE K te f)(hl:SimO K tl lo)(hh:SimO K th hi):SimE K (tSl (rSlS K) te tl th) (dSl f lo hi):=by
 intro C w Γ σ H s Γ' Q R e k
 obtain⟨⟨a,G1⟩,e1,e⟩:=bind_some e
 obtain⟨⟨i,G2⟩,e2,e⟩:=bind_some e
 obtain⟨⟨j,G3⟩,e3,e⟩:=bind_some e
 obtain⟨z,e4,e⟩:=zAA e
 cases e
 dsimp only at e4
 refine he C w Γ σ H a G1 _ R e1 fun v H1 R1 ev1 o1 n1=>?_
 refine hl C w G1 σ H1 i G2 _ R1 e2 fun H2 R2 ev2=>?_
 refine hh C w G2 σ H2 j G3 _ R2 e3 fun H3 R3 ev3=>?_
 have o3:=(o1.evo ev2 R1.lst).evo ev3 R2.lst
 have ev:=(ev1.trans ev2).trans ev3
 unfold slS at e4
 split at e4
 ·cases e4
  obtain⟨p,us,rfl,h1,i1⟩:=o3.invt
  refine .inl ⟨p,us,rfl,h1,fun c H' sm hc=>k _ H' (R3.same sm) (ev.trans (.of_same sm)) ?_ trivial⟩
  show Im K H' (.ref c) (.t _)
  unfold Im
  exact⟨c,_,rfl,hc,(i1.evo (.of_same sm) R3.lst).cut _ _⟩
 ·cases e4
 ·obtain⟨xs,e5,e4⟩:=zAA e4
  cases e4
  obtain⟨p,us,rfl,h1,i1⟩:=zAY R3 o3 e5
  exact .inr ⟨p,us,rfl,h1,fun c hc=>k _ _ (R3.new hc) (ev.trans (Evo.new hc)) (R3.newl hc (i1.cut _ _)) ⟨c,rfl,zAK ev R3.lst hc⟩⟩
def SimMut(K:Fg)(r:V->List V->Hp->VK->Prop)(h:En->List T->List S->Option (T×List T)):Prop:=∀ (C:Fr) (w:W) (Γ:En) (σ:St) (H:Hp) (l:Addr) (us:List V) (xs:List T) (vs:List V) (as:List S) (t:T) (ys:List T) (Q:VK),Rep K C w Γ σ H->H l=some (.lst us)->Ims K H us xs->us.length<=sizeLine->SOks K C w σ H vs as->h Γ xs as=some (t,ys) ->
 (∀ v us',Ims K H us' ys->Im K H v t->Q v (upd H l (.lst us')))->r (.ref l) vs H Q
def isLs(Γ:En)(i:Nat):Bool:=match Γ[i]? with
 | some (some (.l _))=>true
 | _=>false
def dMut(i:Nat)(h:En->List T->List S->Option (T×List T))(fa:DA):DE:=fun Γ=>if isLs Γ i=true then (fa Γ).bind fun p=>match p.2[i]? with
 | some (some (.l xs))=>(gd xs.length ()).bind fun _=>(h p.2 xs p.1).map fun q=>(.v q.1,p.2.set i (some (.l q.2)))
 | _=>none
 else none
theorem zCS{K:Fg}{C:Fr}{w:W}{Γ:En}{σ:St}{H:Hp}{i:Nat}(R:Rep K C w Γ σ H)(h:isLs Γ i=true):∃ p vs,σ[i]?=some (some (.ref p))/\H p=some (.lst vs):=by
 unfold isLs at h
 split at h
 ·rename_i xs e
  obtain⟨v,e1,p,vs,rfl,_,h1,_⟩:=R.val i _ e
  exact⟨p,vs,e1,h1⟩
 ·cases h
theorem zIc{K:Fg}{i:Nat}{r:V->List V->Hp->VK->Prop}{h:En->List T->List S->Option (T×List T)}{ta:TA}{fa:DA}(hr:SimMut K r h)(ha:SimA K ta fa):SimE K (tBM K "list" r (tVar i) ta) (dMut i h fa):=by
 intro C w Γ σ H s Γ' Q R e k
 unfold dMut at e
 split at e
 rotate_left
 ·cases e
 rename_i hl
 obtain⟨p,vs,e1,e2⟩:=zCS R hl
 obtain⟨⟨as,G1⟩,e3,e⟩:=bind_some e
 dsimp only at e
 split at e
 rotate_left
 ·cases e
 rename_i xs hx
 obtain⟨_,eg,e⟩:=bind_some e
 obtain⟨hsz,_⟩:=zAZ eg
 obtain⟨⟨t,ys⟩,e4,e⟩:=zAA e
 cases e
 refine⟨.ref p,e1,.inl ⟨rfl,vs,SqL.of e2⟩,?_⟩
 refine ha C w Γ σ H as G1 _ R e3 fun us H1 R1 ev1 o1 n1=>?_
 obtain⟨v,s1,q,ws,rfl,m1,h1,i1⟩:=R1.val i _ hx
 rw[e1]at s1; cases s1
 refine hr C w G1 σ H1 p ws xs us as t ys _ R1 h1 i1 (by rw[i1.len]; exact hsz) o1 e4 fun v us' hu hv=>?_
 obtain⟨R2,ev2⟩:=R1.put hx e1 hu
 exact k v _ R2 (ev1.trans ev2) (hv.evo ev2 R1.lst) trivial
def hAppend:En->List T->List S->Option (T×List T):=fun _ xs as=>match as with
 | [.v t]=>if xs.length < sizeLine then some (.a .non,xs++[t]) else none
 | _=>none
theorem mut_append{K:Fg}:SimMut K rAppend hAppend:=by
 intro C w Γ σ H l us xs vs as t ys Q R hl hi hz o e k
 unfold hAppend at e
 split at e
 ·rename_i t'
  split at e
  ·rename_i hn
   cases e
   obtain⟨v,rfl,o1⟩:=soks1 o
   exact⟨l,us,v,rfl,rfl,hl,by rw[hi.len]; exact hn,k _ _ (hi.app (.one o1)) Im.atom⟩
  ·cases e
 ·cases e
def hPop:En->List T->List S->Option (T×List T):=fun _ xs as=>match as with
 | []=>(xs[xs.length - 1]?).map fun t=>(t,xs.dropLast)
 | _=>none
def hPopAt:En->List T->List S->Option (T×List T):=fun _ xs as=>match as with
 | [.v (.a (.int i))]=>if inR 9223372036854775807 i=true then (seqIndex? i xs.length).bind fun k=>(xs[k]?).map fun t=>(t,xs.eraseIdx k) else none
 | _=>none
theorem zGR{K:Fg}:SimMut K rPopAt hPopAt:=by
 intro C w Γ σ H l us xs vs as t ys Q R hl hi hz o e k
 unfold hPopAt at e
 split at e
 ·rename_i i
  split at e
  ·rename_i hb
   have hb:=inR63 hb
   obtain⟨j,e1,e⟩:=bind_some e
   obtain⟨t',e2,e⟩:=zAA e
   cases e
   obtain⟨v,rfl,o1⟩:=soks1 o
   obtain⟨y,e3,hy⟩:=hi.get e2
   exact⟨l,us,i,j,y,rfl,by rw[o1.inva],hl,hb.1,hb.2,by rw[hi.len]; exact e1,e3,k _ _ (hi.erase _) hy⟩
  ·cases e
 ·cases e
def hExtend:En->List T->List S->Option (T×List T):=fun Γ xs as=>match as with
 | [a]=>(lsOf Γ a).bind fun zs=>gd (xs.length+zs.length) (.a .non,xs++zs)
 | _=>none
def dSetIx(i:Nat)(fe fi:DE):DS:=fun Γ=>(fe Γ).bind fun p=>p.1.tree.bind fun t=>if isLs p.2 i=true then (fi p.2).bind fun q=>(iS q.1).bind fun k=>match q.2[i]? with
  | some (some (.l xs))=>(ixN xs.length k).map fun j=>.nx (q.2.set i (some (.l (xs.set j t))))
  | _=>none
 else none
theorem zFN{K:Fg}{ip:Option Nat}{i:Nat}{te ti:TE}{fe fi:DE}(he:SimE K te fe)(hi:SimE K ti fi):SimS K ip (tAsg te (gSub (tVar i) ti rSetL)) (dSetIx i fe fi):=by
 intro C w Γ σ H D o hp R e k
 obtain⟨⟨s,G1⟩,e1,e⟩:=bind_some e
 obtain⟨t,e2,e⟩:=bind_some e
 dsimp only at e e2
 split at e
 rotate_left
 ·cases e
 rename_i hl
 obtain⟨⟨s2,G2⟩,e3,e⟩:=bind_some e
 obtain⟨n,e4,e⟩:=bind_some e
 dsimp only at e e4
 split at e
 rotate_left
 ·cases e
 rename_i xs hx
 obtain⟨j,e5,e⟩:=zAA e
 subst e
 cases s with
 | l _=>cases e2
 | s _=>cases e2
 | d _=>cases e2
 | v t' =>
  cases e2
  refine he C w Γ σ H _ G1 _ R e1 fun v H1 R1 ev1 o1 n1=>?_
  obtain⟨p,vs,s1,h1⟩:=zCS R1 hl
  refine⟨.ref p,s1,?_⟩
  refine hi C w G1 σ H1 s2 G2 _ R1 e3 fun v2 H2 R2 ev2 o2 n2=>?_
  obtain⟨v3,s3,q,ws,rfl,m3,h3,i3⟩:=R2.val i _ hx
  rw[s1]at s3; cases s3
  have o1':Im K H1 v t:=o1
  exact⟨p,ws,n,j,rfl,zAe o2 e4,h3,by rw[i3.len]; exact e5,k w σ _ (R2.put hx s1 (i3.set j (o1'.evo ev2 R1.lst))).1⟩
def boolsOf:List T->Option (List Bool)
 | []=>some []
 | .a (.bl b)::r=>(boolsOf r).map fun bs=>b::bs
 | _=>none
theorem zDu{K:Fg}{H:Hp}:∀ {vs:List V} {ts:List T} {bs:List Bool},Ims K H vs ts->boolsOf ts=some bs->vs=bs.map V.bl
 | _,[],_,h,e=>by cases e; exact h.inv0
 | _,.a (.bl b)::r,_,h,e=>by
  obtain⟨v,us,rfl,h1,h2⟩:=h.inv
  obtain⟨bs,e1,e⟩:=zAA e
  cases e
  rw[h1.inva,zDu h2 e1]; rfl
 | _,.t _::_,_,_,e=>by cases e
 | _,.l _::_,_,_,e=>by cases e
 | _,.f _::_,_,_,e=>by cases e
 | _,.x _ _::_,_,_,e=>by cases e
 | _,.a .non::_,_,_,e=>by cases e
 | _,.a (.int _)::_,_,_,e=>by cases e
 | _,.a (.str _)::_,_,_,e=>by cases e
 | _,.a (.byt _)::_,_,_,e=>by cases e
 | _,.a (.flt _)::_,_,_,e=>by cases e
 | _,.a (.ref _)::_,_,_,e=>by cases e
 | _,.a (.ty _)::_,_,_,e=>by cases e
def allS:En->List S->Option S:=fun Γ as=>match as with
 | [a]=>(sqlOf Γ a).bind fun xs=>(boolsOf xs).map fun bs=>mkB (bs.all id)
 | _=>none
theorem zFw{K:Fg}:SimRs K (fun xs H Q=>∃ (p:Addr) (bs:List Bool),xs=[.ref p]/\SqL K H p (bs.map V.bl)/\Q (.bl (bs.all id)) H) allS:=by
 intro C w Γ σ H vs as s Q R o e k
 unfold allS at e
 split at e
 ·obtain⟨xs,e1,e⟩:=bind_some e
  obtain⟨bs,e2,e⟩:=zAA e
  cases e
  obtain⟨v,rfl,o1⟩:=soks1 o
  obtain⟨p,us,rfl,h1,i1⟩:=zAY R o1 e1
  exact⟨p,bs,rfl,by rw[← zDu i1 e2]; exact h1,k _ H R .refl SOk.atom trivial⟩
 ·cases e
def tyN(Γ:En):S->Option String
 | .v (.t _)=>some "tuple"
 | .v (.a (.int _))=>some "int"
 | .v (.a (.bl _))=>some "bool"
 | .v (.a (.str _))=>some "str"
 | .v (.a .non)=>some "NoneType"
 | .v (.l _)=>some "list"
 | .v _=>none
 | a=>(sqlOf Γ a).map fun _=>"list"
def TyS(K:Fg)(H:Hp)(n:String):V->Prop
 | .int _=>n="int"
 | .bl _=>n="bool"
 | .str _=>n="str"
 | .non=>n="NoneType"
 | .ref p=>(n="list"/\∃ xs,SqL K H p xs)\/(n="tuple"/\∃ xs,SqT K H p xs)
 | _=>False
theorem zGS{K:Fg}{C:Fr}{w:W}{Γ:En}{σ:St}{H:Hp}{x:V}{s:S}{n:String}(R:Rep K C w Γ σ H)(o:SOk K C w σ H x s)(e:tyN Γ s=some n):TyS K H n x:=by
 unfold tyN at e
 split at e
 ·cases e; obtain⟨p,us,rfl,h1,i1⟩:=o.invt; exact .inr ⟨rfl,us,h1.sq⟩
 ·cases e; rw[o.inva]; exact rfl
 ·cases e; rw[o.inva]; exact rfl
 ·cases e; rw[o.inva]; exact rfl
 ·cases e; rw[o.inva]; exact rfl
 ·rename_i ys; cases e; obtain⟨p,us,rfl,h1,i1⟩:=(show Im K H x (.l ys) from o).invl; exact .inl ⟨rfl,us,h1.sq⟩
 ·cases e
 ·obtain⟨xs,e1,e⟩:=zAA e
  cases e
  obtain⟨p,us,rfl,h1,i1⟩:=zAY R o e1
  exact .inl ⟨rfl,us,h1⟩
theorem zFv{X:Cx}{pins:List (Addr×Obj)}{σ:St}{H:Hp}{s:Shared}{x:V}{u:Value}{n:String}(I:Inv X pins σ H s)(rx:RelV x u)(ty:TyS X.K H n x):∃ P:Heap->Prop,PySem.W.KitX X.K u (.type n) P/\P s.heap/\u≠.builtin "__main__.__loader__#opaque":=by
 cases x with
 | non=>cases ty; cases (show u=Value.none from rx); exact⟨_,PySem.W.kitx_none,True.intro,fun z=>nomatch z⟩
 | bl y=>cases ty; cases (show u=Value.bool y from rx); exact⟨_,PySem.W.kitx_bool,True.intro,fun z=>nomatch z⟩
 | int i=>cases ty; obtain⟨t,q⟩:=(show ∃ t,u=Value.int i t from rx); cases q; exact⟨_,PySem.W.kitx_int,True.intro,fun z=>nomatch z⟩
 | str y=>cases ty; obtain⟨t,q⟩:=(show ∃ t,u=Value.str y t from rx); cases q; exact⟨_,PySem.W.kitx_str,True.intro,fun z=>nomatch z⟩
 | ref p =>
  cases (show u=Value.ref p from rx)
  rcases ty with ⟨rfl,xs,h⟩ | ⟨rfl,xs,h⟩
  ·obtain⟨its,_,pl,_⟩:=I.list h
   obtain⟨o,h1,h2,_⟩:=pl.isList
   exact⟨_,PySem.W.kitx_list,⟨o,h1,h2⟩,fun z=>nomatch z⟩
  ·obtain⟨its,_,pl,_⟩:=I.tuple h
   obtain⟨o,h1,h2,_⟩:=pl
   exact⟨_,PySem.W.kitx_tuple,⟨o,h1,h2⟩,fun z=>nomatch z⟩
 | byt _=>exact ty.elim
 | flt _=>exact ty.elim
 | ty _=>exact ty.elim
def tyIx:String->Option Nat
 | "int"=>some 0
 | "bool"=>some 1
 | "str"=>some 2
 | "list"=>some 3
 | "tuple"=>some 4
 | "NoneType"=>some 5
 | _=>none
def tyNm:Nat->String
 | 0=>"int" | 1=>"bool" | 2=>"str" | 3=>"list" | 4=>"tuple" | _=>"NoneType"
@[simp] theorem zMv:tyIx "int"=some 0:=(rfl)
@[simp] theorem zNK:tyIx "bool"=some 1:=(rfl)
@[simp] theorem zNA:tyIx "str"=some 2:=(rfl)
@[simp] theorem zM9:tyIx "list"=some 3:=(rfl)
@[simp] theorem zNH:tyIx "tuple"=some 4:=(rfl)
@[simp] theorem zMK:tyIx "NoneType"=some 5:=(rfl)
theorem zEk{a:String}{i:Nat}(h:tyIx a=some i):a=tyNm i/\i < 6:=by
 unfold tyIx at h
 split at h <;> first | (cases h; exact⟨rfl,by decide⟩) | cases h
def subTy(a b:String):Option Bool:=(tyIx a).bind fun i=>(tyIx b).bind fun j=>if j=5 then none else some (i == j || (i == 1 && j == 0))
theorem zHm{K:Fg}{a b:String}{c:Bool}(e:subTy a b=some c):PySem.W.kitOne K (.type a) (.type b)=some c:=by
 obtain⟨i,e1,z0⟩:=bind_some e
 obtain⟨j,e2,z⟩:=bind_some z0
 clear z0
 clear e
 obtain⟨rfl,hi⟩:=zEk e1
 obtain⟨rfl,hj⟩:=zEk e2
 clear e1 e2
 by_cases h5:j=5
 ·rw[if_pos h5]at z; cases z
 rw[if_neg h5]at z
 cases z
 have key:∀ i < 6,∀ j < 5,PySem.W.kitOne K (.type (tyNm i)) (.type (tyNm j))=some (i == j || (i == 1 && j == 0)):=fun i hi j hj=>by
  match i,hi,j,hj with
  | 0,_,0,_=>kernel_rfl
  | 0,_,1,_=>kernel_rfl
  | 0,_,2,_=>kernel_rfl
  | 0,_,3,_=>kernel_rfl
  | 0,_,4,_=>kernel_rfl
  | 1,_,0,_=>kernel_rfl
  | 1,_,1,_=>kernel_rfl
  | 1,_,2,_=>kernel_rfl
  | 1,_,3,_=>kernel_rfl
  | 1,_,4,_=>kernel_rfl
  | 2,_,0,_=>kernel_rfl
  | 2,_,1,_=>kernel_rfl
  | 2,_,2,_=>kernel_rfl
  | 2,_,3,_=>kernel_rfl
  | 2,_,4,_=>kernel_rfl
  | 3,_,0,_=>kernel_rfl
  | 3,_,1,_=>kernel_rfl
  | 3,_,2,_=>kernel_rfl
  | 3,_,3,_=>kernel_rfl
  | 3,_,4,_=>kernel_rfl
  | 4,_,0,_=>kernel_rfl
  | 4,_,1,_=>kernel_rfl
  | 4,_,2,_=>kernel_rfl
  | 4,_,3,_=>kernel_rfl
  | 4,_,4,_=>kernel_rfl
  | 5,_,0,_=>kernel_rfl
  | 5,_,1,_=>kernel_rfl
  | 5,_,2,_=>kernel_rfl
  | 5,_,3,_=>kernel_rfl
  | 5,_,4,_=>kernel_rfl
 exact key i hi j (by omega)
def subLT:String->Option Bool
 | "int"=>some false
 | "bool"=>some false
 | "str"=>some false
 | "NoneType"=>some false
 | "list"=>some true
 | "tuple"=>some true
 | _=>none
theorem zHF{K:Fg}{a:String}{c:Bool}(e:subLT a=some c):PySem.W.kitAny K (.type a) [.type "list",.type "tuple"]=some c:=by
 unfold subLT at e
 split at e <;> first | (cases e; kernel_rfl) | cases e
def rIsi(K:Fg):List V->Hp->VK->Prop:=fun xs H Q=>∃ x T n b,xs=[x,.ty T]/\TyS K H n x/\subTy n T=some b/\Q (.bl b) H
theorem zGx{X:Cx}:CallR X (.builtin "isinstance") (rIsi X.K):=by
 intro pins s σ H xs us Q I r h
 obtain⟨x,T,n,b,rfl,ty,e,q⟩:=h
 obtain⟨u,u',rfl,r1,r2⟩:=vals2 r
 cases (show u'=Value.type T from r2)
 obtain⟨P,Z,hP,hx⟩:=zFv I r1 ty
 exact PySem.W.kia_one Z I.kIn hP (zHm e) hx fun tk=>⟨.bl b,H,I.tok tk,rfl,q⟩
def rIsiLT(K:Fg):List V->Hp->VK->Prop:=fun xs H Q=>∃ x p n b,xs=[x,.ref p]/\SqT K H p [.ty "list",.ty "tuple"]/\TyS K H n x/\subLT n=some b/\Q (.bl b) H
theorem zFh{X:Cx}:CallR X (.builtin "isinstance") (rIsiLT X.K):=by
 intro pins s σ H xs us Q I r h
 obtain⟨x,p,n,b,rfl,hp,ty,e,q⟩:=h
 obtain⟨u,u',rfl,r1,r2⟩:=vals2 r
 cases (show u'=Value.ref p from r2)
 obtain⟨its,rv,⟨o,ho,hcl,⟨m,hd⟩⟩,hz⟩:=I.tuple hp
 obtain⟨u1,u2,rfl,q1,q2⟩:=vals2 rv
 cases (show u1=Value.type "list" from q1)
 cases (show u2=Value.type "tuple" from q2)
 obtain⟨P,Z,hP,hx⟩:=zFv I r1 ty
 obtain⟨cls,dd,data,sl⟩:=o
 simp only at hcl hd
 subst hcl hd
 exact PySem.W.kia_tup Z I.kIn hP ho (zHF e) hx fun tk=>⟨.bl b,H,I.tok tk,rfl,q⟩
def isiS:En->List S->Option S:=fun Γ as=>match as with
 | [a,.v (.a (.ty T))]=>(tyN Γ a).bind fun n=>(subTy n T).map mkB
 | [a,.v (.t [.a (.ty "list"),.a (.ty "tuple")])]=>(tyN Γ a).bind fun n=>(subLT n).map mkB
 | _=>none
def rIsiS(K:Fg):List V->Hp->VK->Prop:=fun xs H Q=>rIsi K xs H Q\/rIsiLT K xs H Q
theorem zC2{X:Cx}:CallR X (.builtin "isinstance") (rIsiS X.K):=zGx.or zFh
theorem zDC{K:Fg}:SimRs K (rIsiS K) isiS:=by
 intro C w Γ σ H vs as s Q R o e k
 unfold isiS at e
 split at e
 ·obtain⟨n,e1,e⟩:=bind_some e
  obtain⟨b,e2,e⟩:=zAA e
  cases e
  obtain⟨v,u,rfl,o1,o2⟩:=soks2 o
  exact .inl ⟨v,_,n,b,by rw[o2.inva],zGS R o1 e1,e2,k _ H R .refl SOk.atom trivial⟩
 ·obtain⟨n,e1,e⟩:=bind_some e
  obtain⟨b,e2,e⟩:=zAA e
  cases e
  obtain⟨v,u,rfl,o1,o2⟩:=soks2 o
  obtain⟨p,us,rfl,h1,i1⟩:=o2.invt
  have hus:us=[.ty "list",.ty "tuple"]:=Ims.of_atoms (us:=[.ty "list",.ty "tuple"]) i1
  subst hus
  exact .inr ⟨v,p,n,b,rfl,h1.sq,zGS R o1 e1,e2,k _ H R .refl SOk.atom trivial⟩
 ·cases e
def intS:En->List S->Option S:=fun _ as=>match as with
 | [.v (.a (.int i))]=>some (mkI i)
 | [.v (.a (.bl b))]=>some (mkI (if b then 1 else 0))
 | _=>none
theorem zF0{K:Fg}:SimRs K (fun xs H Q=>(∃ i,xs=[.int i]/\Q (.int i) H)\/∃ k,xs=[.bl k]/\Q (.int (if k then 1 else 0)) H) intS:=by
 intro C w Γ σ H vs as s Q R o e k
 unfold intS at e
 split at e
 ·cases e
  obtain⟨v,rfl,o1⟩:=soks1 o
  exact .inl ⟨_,by rw[o1.inva],k _ H R .refl SOk.atom trivial⟩
 ·cases e
  obtain⟨v,rfl,o1⟩:=soks1 o
  exact .inr ⟨_,by rw[o1.inva],k _ H R .refl SOk.atom trivial⟩
 ·cases e
def max2S:En->List S->Option S:=fun _ as=>match as with
 | [.v (.a (.int i)),.v (.a (.int j))]=>some (mkI (if j > i then j else i))
 | _=>none
def min2S:En->List S->Option S:=fun _ as=>match as with
 | [.v (.a (.int i)),.v (.a (.int j))]=>some (mkI (if j < i then j else i))
 | _=>none
def atomsOf:List T->Option (List V)
 | []=>some []
 | .a v::r=>(atomsOf r).map fun vs=>v::vs
 | _=>none
theorem zBx{K:Fg}{H:Hp}:∀ {vs:List V} {ts:List T} {us:List V},Ims K H vs ts->atomsOf ts=some us->vs=us
 | _,[],_,h,e=>by cases e; exact h.inv0
 | _,.a b::r,_,h,e=>by
  obtain⟨v,us,rfl,h1,h2⟩:=h.inv
  obtain⟨bs,e1,e⟩:=zAA e
  cases e
  rw[h1.inva,zBx h2 e1]
 | _,.t _::_,_,_,e=>by cases e
 | _,.l _::_,_,_,e=>by cases e
 | _,.f _::_,_,_,e=>by cases e
 | _,.x _ _::_,_,_,e=>by cases e
def tBMS(K:Fg)(r:V->List V->Hp->VK->Prop)(to:TE)(t:TA):TE:=fun σ H Q=>to σ H fun x H1=>(∃ p xs,x=.ref p/\Tp K H1 p xs)/\t σ H1 fun xs H2=>r x xs H2 Q
open PySem.Spec PyProof.Rows in
theorem zJp{X:Cx}{o e:Expr}{es:List Expr}{to:TE}{t:TA}{name:Str}{apos cpos:Pos}{id:String}{r:V->List V->Hp->VK->Prop}(slot:Slot "tuple" name id)(hty:typeOf (.builtin id)=pure (.type "method_descriptor"))(hm:MtM X id r)(ho:PE X o to)(ha:PA X (e::es) t)
  (hbase:attributeBase o name X.env (eval o X.env)=eval o X.env:=by rfl)
  (hfew:((backTo cpos (starEach (e::es) X.env)).all (fun x=>!x.1) && (backToKw cpos (keywordEach [] X.env)).all (fun x=>x.1.isSome) && decide ((e::es).length+([]:List Keyword).length+(if ([]:List Keyword).isEmpty then 0 else 1) < 30))=true:=by rfl)
  (hline:(apos.endLine == cpos.line)=true:=by rfl) (hs:starEach (e::es) X.env=(false,eval e X.env)::starEach es X.env:=by rfl) (hplain:(backTo cpos (starEach es X.env)).any (·.1)=false:=by rfl) :
  PE X (.Call (.Attribute o name apos) (e::es) [] cpos) (tBMS X.K r to t):=by
 intro pins s σ H Q I h
 refine wpAny_Call_method_late hbase hfew hline rfl (thn (ho pins s σ H _ I h) fun v s1 ⟨x,H1,I1,r1,⟨p,xs,ex,hp⟩,q1⟩=>?_)
 subst ex
 cases r1
 have key:∃ o',s1.heap.get? p=some o'/\o'.cls=.type "tuple"/\o'.dict=none:=by
  rcases hp with hp | ⟨o',its,n,a1,a2,a3,a4⟩
  ·obtain⟨_,its,_,o',ho',hc',_,hd'⟩:=(show ObjOk X.prog X.w H1 s1.heap p (.tup xs) from I1.hok p _ hp)
   exact⟨o',ho',hc',hd'⟩
  ·exact⟨o',I1.kIn p o' a1,a2,a3⟩
 obtain⟨o',ho',hc',hd'⟩:=key
 refine⟨"tuple",id,F.plainAttrs_tuple,slot,hty,⟨o',ho',hc'⟩,fun a e=>by cases e; exact⟨o',ho',hd'⟩,?_⟩
 have hA:=ha cpos pins s1 σ H1 _ I1 q1
 rw[hs]at hA ⊢
 refine Calls.callWith_builtin (by show (false || (backTo cpos (starEach es X.env)).any (·.1))=false; rw[hplain] <;> rfl) (Calls.evalArgs_plain ?_)
 exact thn hA fun us s2 ⟨vs,H2,I2,r2,q2⟩=>hm pins s2 σ H2 (.ref p) vs (.ref p) us Q I2 (show RelV (.ref p) (.ref p) from rfl) r2 q2
def dIndex(fo:DE)(fa:DA):DE:=fun Γ=>(fo Γ).bind fun p=>(fa p.2).bind fun q=>match p.1,q.1 with
 | .v (.t xs),[.v (.a y)]=>(atomsOf xs).bind fun vs=>if flatV y=true/\vs.all flatV=true then (vs.findIdx? fun z=>eqV z y).map fun j=>(mkI (j:Nat),q.2) else none
 | _,_=>none
theorem zGs{K:Fg}{to:TE}{ta:TA}{fo:DE}{fa:DA}(ho:SimE K to fo)(ha:SimA K ta fa):SimE K (tBMS K (rTupIndex K) to ta) (dIndex fo fa):=by
 intro C w Γ σ H s Γ' Q R e k
 obtain⟨⟨a,G1⟩,e1,e⟩:=bind_some e
 obtain⟨⟨as,G2⟩,e2,e⟩:=bind_some e
 dsimp only at e
 split at e
 ·rename_i xs y
  obtain⟨vs,e3,e⟩:=bind_some e
  split at e
  ·rename_i hf
   obtain⟨j,e4,e⟩:=zAA e
   cases e
   refine ho C w Γ σ H _ G1 _ R e1 fun v H1 R1 ev1 o1 n1=>?_
   have o1':=o1
   obtain⟨p,us,rfl,h1,i1⟩:=o1.invt
   refine⟨⟨p,us,rfl,h1⟩,?_⟩
   refine ha C w G1 σ H1 _ _ _ R1 e2 fun ws H2 R2 ev2 o2 n2=>?_
   obtain⟨u,rfl,o3⟩:=soks1 o2
   obtain⟨p',us',e5,h1',i1'⟩:=(o1'.evo ev2 R1.lst).invt
   cases e5
   have hus:=zBx i1' e3
   subst hus
   exact⟨p,us',_,j,rfl,by rw[o3.inva],h1'.sq,hf.1,hf.2,e4,k _ H2 R2 (ev1.trans ev2) SOk.atom trivial⟩
  ·cases e
 ·cases e
end D
namespace L2
open PySem PySem.Spec PyProof.Rows
section
variable {X:Cx}{tg:Expr}
def iSeq(K:PySem.W.Frag)(tl:TE):TI:=fun σ H R=>tl σ H fun x H1=>∃ a,x=.ref a/\(((∃ xs,SqL K H1 a xs)/\R (Itl K a) H1)\/((∃ xs,SqT K H1 a xs)/\R (Itt K a) H1))
theorem zIQ{l:Expr}{tl:TE}(hl:PE X l tl):PI X tg l (iSeq X.K tl):=by
 intro pins s σ H R I h
 refine thn (hl pins s σ H _ I h) fun v s1 ⟨x,H1,I1,r1,q1⟩=>?_
 obtain⟨a,e,q⟩:=q1
 subst e
 cases r1
 rcases q with ⟨⟨xs,hq⟩,q⟩ | ⟨⟨xs,hq⟩,q⟩
 ·obtain⟨its,rv,p,hz⟩:=I1.list hq
  refine wpAny_pyIter_list p.isList ?_
  refine⟨s1.heap.objs.size,[s1.heap.objs.size],_,_,H1,rfl,I1.kept (t':=s1.toks) fun b o e=>Heap.get?_push_of_some _ e,zGY a _,⟨_,Heap.get?_push_size _ rfl,rfl,rfl⟩,fun b hb=>?_,q⟩
  have e:b=s1.heap.objs.size:=by simpa using hb
  subst e
  exact I1.fpOk (Nat.le_refl _) (I1.hok.fresh (Nat.le_refl _))
 ·obtain⟨its,rv,p,hz⟩:=I1.tuple hq
  refine wpAny_pyIter_tuple (show s1.heap.IsTuple a its.toArray from p) ?_
  refine⟨s1.heap.objs.size,[s1.heap.objs.size],_,_,H1,rfl,I1.kept (t':=s1.toks) fun b o e=>Heap.get?_push_of_some _ e,zFJ a _,⟨_,Heap.get?_push_size _ rfl,rfl,rfl⟩,fun b hb=>?_,q⟩
  have e:b=s1.heap.objs.size:=by simpa using hb
  subst e
  exact I1.fpOk (Nat.le_refl _) (I1.hok.fresh (Nat.le_refl _))
end
section
variable {X:Cx}{elts:List Expr}{x1:Nat}{tp:Pos}
def iZipU(K:PySem.W.Frag)(ta:TA):TI:=fun σ H R=>ta σ H fun vs H1=>∃ (b:Bool) (a1 a2:Addr),vs=[.ref a1,.ref a2]/\(∃ xs,Sq b K H1 a1 xs)/\(∃ ys,Sq b K H1 a2 ys)/\R (Itz b K a1 a2) H1
theorem zH8{e1 e2:Expr}{ta:TA}{p pos:Pos}(hg:Gl X "zip")(hm:X.mg "zip"=none)(ha:PA X [e1,e2] ta)(hs:starEach [e1,e2] X.env=[(false,eval e1 X.env),(false,eval e2 X.env)]:=by rfl)(hs2:starEach [e2] X.env=[(false,eval e2 X.env)]:=by rfl) :
  PI X (.Tuple elts x1 tp) (.Call (.Name "zip" p) [e1,e2] [] pos) (iZipU X.K ta):=by
 intro pins s σ H R I h
 refine Call_ (zAs I hg hm boot_zip (PyProof.Rows.callWith_type1 (thn (ha pos pins s σ H _ I h) fun us s1 ⟨vs,H1,I1,r1,q1⟩=>?_) (by rw[hs,hs2]) (by rw[hs2]; rfl)))
 obtain⟨b,a1,a2,e,⟨xs,h1⟩,⟨ys,h2⟩,q⟩:=q1
 subst e
 obtain⟨u1,u2,e,r,r'⟩:=vals2 r1
 subst e
 cases r; cases r'
 obtain⟨its1,v1,o1,z1⟩:=I1.sq h1
 obtain⟨its2,v2,o2,z2⟩:=I1.sq h2
 have lt1:a1 < s1.heap.objs.size:=by cases b with
  | false=>obtain⟨o,e,_⟩:=(show s1.heap.IsList a1 its1.toArray from o1); exact Heap.lt_size e
  | true=>obtain⟨o,e,_⟩:=(show s1.heap.IsTuple a1 its1.toArray from o1); exact Heap.lt_size e
 have lt2:a2 < s1.heap.objs.size:=by cases b with
  | false=>obtain⟨o,e,_⟩:=(show s1.heap.IsList a2 its2.toArray from o2); exact Heap.lt_size e
  | true=>obtain⟨o,e,_⟩:=(show s1.heap.IsTuple a2 its2.toArray from o2); exact Heap.lt_size e
 have D:ZAp (s1.heap.objs.size+4) (s1.heap.objs.size+2) (s1.heap.objs.size+3) s1.heap.objs.size (s1.heap.objs.size+1) a1 a2 :=
  ⟨zipApart_new lt1 lt2,Nat.ne_of_lt (Nat.lt_of_lt_of_le lt1 (Nat.le_add_right _ 2)),Nat.ne_of_lt (Nat.lt_of_lt_of_le lt2 (Nat.le_add_right _ 2))⟩
 have fin:∀ h',ZTn b (s1.heap.objs.size+4) (s1.heap.objs.size+2) (s1.heap.objs.size+3) s1.heap.objs.size (s1.heap.objs.size+1) a1 a2 0 h'->(∀ c o,s1.heap.get? c=some o->h'.get? c=some o) ->
   wpAny (model X.prog X.w) X.A (pyIter (.ref (s1.heap.objs.size+4))) (PIE X pins σ (.Tuple elts x1 tp) R) X.xe { s1 with heap:=h' }:=fun h' st hk=>by
  refine wpAny_pyIter_zip st.z ?_
  refine⟨_,_,_,_,H1,rfl,I1.kept (t':=s1.toks) hk,zHP b D,st,fun c hc=>?_,q⟩
  have hc':s1.heap.objs.size<=c:=by
   simp only[List.mem_cons,List.not_mem_nil,or_false]at hc
   rcases hc with e | e | e | e | e <;> (rw[e]) <;> first | exact Nat.le_refl _ | exact Nat.le_add_right _ _
  exact I1.fpOk hc' (I1.hok.fresh hc')
 cases b with
 | false=>exact call_zip_2 o1 o2 fun h' hz hTI hTO it1 it2 _ hk=>fin h' ⟨hz,hTI,⟨_,_,hTO⟩,it1,it2⟩ hk
 | true=>exact zGh o1 o2 fin
end
section
variable {X:Cx}{pos:Pos}
def tPar3(i j k:Nat)(ta:TA):TS:=fun D σ H=>ta σ H fun vs H1=>∃ v w z,vs=[v,w,z]/\D.nx (((σ.set i (some v)).set j (some w)).set k (some z)) H1
theorem zH3{i j k:Nat}{x y z:Str}{a b c:Expr}{ta:TA}{px py pz pt:Pos}{kt k2 pt2}(hc:X.calm=true)(hN:X.N.Nodup)(hi:X.N[i]?=some x)(hj:X.N[j]?=some y)(hk:X.N[k]?=some z)(hij:i≠j)(hik:i≠k)(hjk:j≠k)
  (hx:X.env.scope.names.lookup x=some .local) (hy:X.env.scope.names.lookup y=some .local) (hz:X.env.scope.names.lookup z=some .local) (ha:PA X [a,b,c] ta)
  (hw:swappedStores [.Tuple [.Name x px,.Name y py,.Name z pz] kt pt] (.Tuple [a,b,c] k2 pt2) X.env=pure (some [x,y,z]))
  (hs:swapsWithSole [.Tuple [.Name x px,.Name y py,.Name z pz] kt pt] (.Tuple [a,b,c] k2 pt2) pos.line X.env=pure false:=by rfl) :
  PS X (.Assign [.Tuple [.Name x px,.Name y py,.Name z pz] kt pt] (.Tuple [a,b,c] k2 pt2) pos) (tPar3 i j k ta):=by
 intro pins s σ H D I h
 rw[exec_Assign_arm]
 refine wpAny_bind (wpAny_standAt ?_)
 rw[hs]
 refine wpAny_bind (wpAny_pure ?_)
 rw[if_neg (by decide)]
 refine wpAny_bind (Tuple_ (thn (ha _ pins s σ H _ I h) fun us s1 ⟨vs,H1,I1,r1,q1⟩=>?_))
 obtain⟨v,w,q,e1,q1⟩:=q1
 subst e1
 obtain⟨u1,u2,u3,rfl,rv,rw',rz⟩:∃ u1 u2 u3,us=[u1,u2,u3]/\RelV v u1/\RelV w u2/\RelV q u3:=by
  cases r1 with
  | cons p q =>
   cases q with
   | cons p' q' =>
    cases q' with
    | cons p'' q'' =>
     cases q''
     exact⟨_,_,_,rfl,p,p',p''⟩
 refine wpAny_newObj_type ?_ (by show 3<=sizeLine; decide)
 have I2:Inv X pins σ H1 { s1 with heap:=s1.heap.push { cls:=.type "tuple",data:=.seq [u1,u2,u3].toArray } }:=I1.kept (t':=s1.toks) fun b o e=>Heap.get?_push_of_some _ e
 rw[hw]
 refine wpAny_bind (wpAny_pure ?_)
 show wpAny (model X.prog X.w) X.A (do rule "assign.swapped-stores"; let items ← unpackItems (.ref s1.heap.objs.size) 3 none; assignInOrder [fun v=>bindName X.env z v,fun v=>bindName X.env y v,fun v=>bindName X.env x v] items.reverse; pure Flow.next) _ _ _
 refine wpAny_bind (wpAny_rule (wpAny_bind (unpackItems_tuple (items:=#[u1,u2,u3]) (I.ok.hd hc) (IsTup.new s1.heap _) fun h' hx'=>?_)))
 have I3:=I2.kept (h':=h') (t':=s1.toks) fun b o e=>hx' b o (Nat.ne_of_lt (Heap.lt_size e)) e
 show wpAny _ _ (assignInOrder [fun v=>bindName X.env z v,fun v=>bindName X.env y v,fun v=>bindName X.env x v] [u3,u2,u1] >>= fun _=>pure Flow.next) _ _ _
 refine wpAny_bind (assignInOrder_cons (wpAny_bindName (zAO I3 hN hk (.inl hz) rz (fun s2 I4=>?_) (.inr hz))))
 refine assignInOrder_cons (wpAny_bindName (zAO I4 hN hj (.inl hy) rw' (fun s3 I5=>?_) (.inr hy)))
 refine assignInOrder_cons (wpAny_bindName (zAO I5 hN hi (.inl hx) rv (fun s4 I6=>assignInOrder_nil (wpAny_pure ?_)) (.inr hx)))
 rw[List.set_comm _ _ (Ne.symm hij),List.set_comm _ _ (Ne.symm hik),List.set_comm _ _ (Ne.symm hjk)]at I6
 exact⟨_,H1,I6,q1⟩
end
end L2
namespace D
open PySem L2
def rngT(lo:Int)(n:Nat):List T:=(List.range n).map fun (i:Nat)=>T.a (.int (lo+(i:Int)))
def dRng1(fa:DA):DI:=fun Γ=>(fa Γ).bind fun p=>match p.1 with
 | [.v (.a (.int j))]=>if (inR 4611686018427387903 j && Nat.ble j.toNat sizeLine)=true then some ((rngT 0 j.toNat,[]),p.2) else none
 | _=>none
def dRng2(fa:DA):DI:=fun Γ=>(fa Γ).bind fun p=>match p.1 with
 | [.v (.a (.int i)),.v (.a (.int j))]=>if (inR 4611686018427387903 i && inR 4611686018427387903 j && Nat.ble (j - i).toNat sizeLine)=true then some ((rngT i (j - i).toNat,[]),p.2) else none
 | _=>none
section
variable {K:Fg}
theorem zEH{w:W}{Γ:En}{σ:St}{H:Hp}{lo:Int}{n:Nat}(h:n<=sizeLine):ItOk K w Γ σ (Itr lo n) H (rngT lo n) []:=by
 refine⟨by simp[rngT]; exact h,fun L' _ _ H2 _=>⟨fun i t e=>?_,by simp[rngT]; exact Nat.le_refl n⟩⟩
 unfold rngT at e
 rw[List.getElem?_map]at e
 obtain⟨j,e1,e⟩:=zAA e
 obtain⟨hi',e1⟩:=List.getElem?_eq_some_iff.mp e1
 have hi:i < n:=by simpa using hi'
 have e1':i=j:=by simpa using e1
 subst e
 subst e1'
 refine⟨hi,fun x H3 y=>?_⟩
 obtain⟨a,b⟩:=y
 subst a b
 exact⟨fun _ _ z=>z,Im.atom⟩
theorem fit1{j:Int}(h:(inR 4611686018427387903 j && Nat.ble j.toNat sizeLine)=true):-(2 ^ 62)<=j/\j < 2 ^ 62/\j.toNat<=sizeLine:=by
 rw[Bool.and_eq_true]at h
 exact⟨(inR62 h.1).1,(inR62 h.1).2,Nat.le_of_ble_eq_true h.2⟩
theorem fit2{i j:Int}(h:(inR 4611686018427387903 i && inR 4611686018427387903 j && Nat.ble (j - i).toNat sizeLine)=true):(-(2 ^ 62)<=i/\i < 2 ^ 62/\-(2 ^ 62)<=j/\j < 2 ^ 62)/\(j - i).toNat<=sizeLine:=by
 rw[Bool.and_eq_true,Bool.and_eq_true]at h
 exact⟨⟨(inR62 h.1.1).1,(inR62 h.1.1).2,(inR62 h.1.2).1,(inR62 h.1.2).2⟩,Nat.le_of_ble_eq_true h.2⟩
theorem zGC{ta:TA}{fa:DA}(ha:SimA K ta fa):SimI K (iRng1 ta) (dRng1 fa):=by
 intro C w Γ σ H its src Γ' R Rp e k
 obtain⟨⟨as,G1⟩,e1,e⟩:=bind_some e
 dsimp only at e
 split at e
 ·split at e
  ·rename_i j hj0
   have hj:=fit1 hj0
   cases e
   refine ha C w Γ σ H _ _ _ Rp e1 fun vs H1 R1 ev1 o1 n1=>?_
   obtain⟨v,rfl,o2⟩:=soks1 o1
   exact⟨_,by rw[o2.inva],hj.1,hj.2.1,k _ H1 R1 ev1 (zEH hj.2.2)⟩
  ·cases e
 ·cases e
theorem zFm{ta:TA}{fa:DA}(ha:SimA K ta fa):SimI K (iRng2 ta) (dRng2 fa):=by
 intro C w Γ σ H its src Γ' R Rp e k
 obtain⟨⟨as,G1⟩,e1,e⟩:=bind_some e
 dsimp only at e
 split at e
 ·split at e
  ·rename_i j hj0
   have hj:=fit2 hj0
   cases e
   refine ha C w Γ σ H _ _ _ Rp e1 fun vs H1 R1 ev1 o1 n1=>?_
   obtain⟨v,u,rfl,o2,o3⟩:=soks2 o1
   exact⟨_,_,by rw[o2.inva,o3.inva],hj.1,k _ H1 R1 ev1 (zEH hj.2)⟩
  ·cases e
 ·cases e
def srcS(Γ:En):S->List Nat
 | .s i=>match Γ[i]? with
  | some (some (.l _))=>[i]
  | _=>[]
 | _=>[]
def dSeqI(f:DE):DI:=fun Γ=>(f Γ).bind fun p=>(seqS p.2 p.1).bind fun xs=>gd xs.length ((xs,srcS p.2 p.1),p.2)
theorem zAy{C:Fr}{w:W}{Γ:En}{σ:St}{H:Hp}{x:V}{s:S}{xs:List T}(R:Rep K C w Γ σ H)(o:SOk K C w σ H x s)(e:sqlOf Γ s=some xs):∃ p vs,x=.ref p/\SqL K H p vs/\Ims K H vs xs /\
  ∀ L',(∀ q∈L',q∈w.L)->(∀ i∈srcS Γ s,∀ q,σ[i]?=some (some (.ref q))->(∃ zs,Γ[i]?=some (some (.l zs)))->q∉L')->∀ H2,Evo L' H H2->SqL K H2 p vs:=by
 cases s with
 | v t =>
  cases t with
  | l ys =>
   cases e
   obtain⟨p,vs,rfl,h1,h2⟩:=(show Im K H x (.l xs) from o).invl
   exact⟨p,vs,rfl,h1.sq,h2,fun L' hs _ H2 ev=>(h1.evo ev fun q hq=>R.lst q (hs q hq)).sq⟩
  | a _=>cases e
  | t _=>cases e
  | f _=>cases e
  | x _ _=>cases e
 | d _=>cases e
 | l ys =>
  cases e
  obtain⟨p,vs,rfl,n1,n2,n3,h1,h2⟩:=o
  exact⟨p,vs,rfl,SqL.of h1,h2,fun L' hs _ H2 ev=>SqL.of (ev _ _ h1 fun z=>n1 (hs p z))⟩
 | s i =>
  have o':σ[i]?=some (some x):=o
  unfold sqlOf at e
  dsimp only at e
  split at e
  ·rename_i ys h
   cases e
   obtain⟨v,e1,p,vs,rfl,_,h1,h2⟩:=R.val i _ h
   rw[o']at e1; cases e1
   refine⟨p,vs,rfl,SqL.of h1,h2,fun L' hs av H2 ev=>SqL.of (ev _ _ h1 (av i ?_ p o' ⟨_,h⟩))⟩
   simp[srcS,h]
  ·rename_i ys h
   cases e
   obtain⟨v,e1,p,vs,rfl,h1,h2,h3,_⟩:=R.val i _ h
   rw[o']at e1; cases e1
   exact⟨p,vs,rfl,SqL.of h2,h1,fun L' hs av H2 ev=>SqL.of (ev _ _ h2 fun z=>h3 (hs p z))⟩
  ·rename_i ys h
   cases e
   obtain⟨v,e1,p,vs,rfl,h1,h2⟩:=R.val i _ h
   rw[o']at e1; cases e1
   exact⟨p,vs,rfl,h2.sq,h1,fun L' hs av H2 ev=>(h2.evo ev fun q hq=>R.lst q (hs q hq)).sq⟩
  ·cases e
theorem zGy{tl:TE}{f:DE}(hl:SimE K tl f):SimI K (iSeq K tl) (dSeqI f):=by
 intro C w Γ σ H its src Γ' R Rp e k
 obtain⟨⟨a,G1⟩,e1,e⟩:=bind_some e
 obtain⟨xs,e2,e⟩:=bind_some e
 obtain⟨hz,e⟩:=zAZ e
 cases e
 refine hl C w Γ σ H a _ _ Rp e1 fun v H1 R1 ev1 o1 n1=>?_
 dsimp only at e2
 have go:∀ {vs:List V} {H2:Hp} {J:It} (mk:∀ i x,vs[i]?=some x->J.go i H2) (yl:∀ i x H3,J.yld i H2 x H3->H3=H2/\vs[i]?=some x),Ims K H2 vs its->∀ (i:Nat) t,its[i]?=some t->J.go i H2/\∀ x H3,J.yld i H2 x H3->(∀ b o,H2 b=some o->H3 b=some o)/\Im K H3 x t:=fun {vs H2 J} mk yl hi i t e=>by
  obtain⟨v,e3,hv⟩:=hi.get e
  refine⟨mk i v e3,fun x H3 y=>?_⟩
  obtain⟨rfl,e4⟩:=yl i x H3 y
  rw[e3]at e4; cases e4
  exact⟨fun _ _ z=>z,hv⟩
 unfold seqS at e2
 split at e2
 ·cases e2
  obtain⟨p,vs,rfl,h1,i1⟩:=o1.invt
  refine⟨p,rfl,.inr ⟨⟨vs,h1.sq⟩,k _ H1 R1 ev1 ⟨hz,fun L' hs av H2 ev=>?_⟩⟩⟩
  have hL:LL L' H1:=fun q hq=>R1.lst q (hs q hq)
  have h2:SqT K H2 p vs:=(zBP ev hL h1).sq
  have i2:=i1.evo ev hL
  exact⟨go (vs:=vs) (J:=Itt K p) (fun i x e=>⟨vs,x,h2,e⟩) (fun i x H3 y=>⟨y.1,y.2 vs h2⟩) i2,⟨vs,h2,by rw[i2.len]; exact Nat.le_refl _⟩⟩
 ·obtain⟨p,vs,rfl,h1,i1,st⟩:=zAy R1 o1 e2
  refine⟨p,rfl,.inl ⟨⟨vs,h1⟩,k _ H1 R1 ev1 ⟨hz,fun L' hs av H2 ev=>?_⟩⟩⟩
  have hL:LL L' H1:=fun q hq=>R1.lst q (hs q hq)
  have h2:=st L' hs av H2 ev
  have i2:=i1.evo ev hL
  exact⟨go (vs:=vs) (J:=Itl K p) (fun i x e=>⟨vs,x,h2,e⟩) (fun i x H3 y=>⟨y.1,y.2 vs h2⟩) i2,⟨vs,h2,by rw[i2.len]; exact Nat.le_refl _⟩⟩
def zipT(xs ys:List T):List T:=(xs.zip ys).map fun p=>.t [p.1,p.2]
def dZip(fa:DA):DI:=fun Γ=>(fa Γ).bind fun p=>match p.1 with
 | [.v (.t xs),.v (.t ys)]=>gd xs.length ((zipT xs ys,[]),p.2)
 | [a,b]=>(sqlOf p.2 a).bind fun xs=>(sqlOf p.2 b).bind fun ys=>gd xs.length ((zipT xs ys,srcS p.2 a++srcS p.2 b),p.2)
 | _=>none
theorem zGB{b:Bool}{a1 a2:Addr}{vs us:List V}{xs ys:List T}{H2:Hp}(h1:Sq b K H2 a1 vs)(h2:Sq b K H2 a2 us)(i1:Ims K H2 vs xs)(i2:Ims K H2 us ys) :
  (∀ (i:Nat) t,(zipT xs ys)[i]?=some t->(Itz b K a1 a2).go i H2/\∀ x H3,(Itz b K a1 a2).yld i H2 x H3->(∀ b o,H2 b=some o->H3 b=some o)/\Im K H3 x t)/\(Itz b K a1 a2).stop (zipT xs ys).length H2:=by
 refine⟨fun i t e=>?_,⟨vs,us,h1,h2,?_⟩⟩
 ·unfold zipT at e
  rw[List.getElem?_map]at e
  obtain⟨⟨t1,t2⟩,e1,e⟩:=zAA e
  subst e
  obtain⟨g1,g2⟩:=List.getElem?_zip_eq_some.mp e1
  obtain⟨v,e3,hv⟩:=i1.get g1
  obtain⟨u,e4,hu⟩:=i2.get g2
  refine⟨⟨vs,us,v,u,h1,h2,e3,e4⟩,fun x H3 y=>?_⟩
  obtain⟨T',x',y',rfl,hT,rfl,k1,k2⟩:=y
  have q1:=k1 vs h1
  have q2:=k2 us h2
  rw[e3]at q1; cases q1
  rw[e4]at q2; cases q2
  have ev:Evo [] H2 (upd H2 T' (.tup [v,u])):=Evo.new hT
  have hL:LL [] H2:=fun q hq=>nomatch hq
  refine⟨fun b o e=>ev b o e nofun,Im.tup zAF (.cons (hv.evo ev hL) (.one (hu.evo ev hL)))⟩
 ·have l1:=i1.len
  have l2:=i2.len
  simp[zipT]
  omega
theorem zHW{ta:TA}{fa:DA}(ha:SimA K ta fa):SimI K (iZipU K ta) (dZip fa):=by
 intro C w Γ σ H its src Γ' R Rp e k
 obtain⟨⟨as,G1⟩,e1,e⟩:=bind_some e
 dsimp only at e
 have zl:∀ xs ys:List T,(zipT xs ys).length<=xs.length:=fun xs ys=>by simp[zipT]; omega
 split at e
 ·rename_i xs ys
  obtain⟨hz,e⟩:=zAZ e
  cases e
  refine ha C w Γ σ H _ _ _ Rp e1 fun vs H1 R1 ev1 o1 n1=>?_
  obtain⟨v,u,rfl,o2,o3⟩:=soks2 o1
  obtain⟨p,vs,rfl,h1,i1⟩:=o2.invt
  obtain⟨q,us,rfl,h2,i2⟩:=o3.invt
  refine⟨true,p,q,rfl,⟨vs,h1.sq⟩,⟨us,h2.sq⟩,k _ H1 R1 ev1 ⟨Nat.le_trans (zl _ _) hz,fun L' hs av H2 ev=>?_⟩⟩
  have hL:LL L' H1:=fun q hq=>R1.lst q (hs q hq)
  exact zGB (b:=true) (zBP ev hL h1).sq (zBP ev hL h2).sq (i1.evo ev hL) (i2.evo ev hL)
 ·obtain⟨xs,e2,e⟩:=bind_some e
  obtain⟨ys,e3,e⟩:=bind_some e
  obtain⟨hz,e⟩:=zAZ e
  cases e
  refine ha C w Γ σ H _ _ _ Rp e1 fun vs H1 R1 ev1 o1 n1=>?_
  obtain⟨v,u,rfl,o2,o3⟩:=soks2 o1
  obtain⟨p,vs,rfl,h1,i1,st1⟩:=zAy R1 o2 e2
  obtain⟨q,us,rfl,h2,i2,st2⟩:=zAy R1 o3 e3
  refine⟨false,p,q,rfl,⟨vs,h1⟩,⟨us,h2⟩,k _ H1 R1 ev1 ⟨Nat.le_trans (zl _ _) hz,fun L' hs av H2 ev=>?_⟩⟩
  have hL:LL L' H1:=fun q hq=>R1.lst q (hs q hq)
  exact zGB (b:=false) (st1 L' hs (fun i hi=>av i (List.mem_append_left _ hi)) H2 ev) (st2 L' hs (fun i hi=>av i (List.mem_append_right _ hi)) H2 ev) (i1.evo ev hL) (i2.evo ev hL)
 ·cases e
theorem zD1{H:Hp}(lo:Int)(n:Nat):Ims K H (rngV lo n) (rngT lo n):=by
 have:rngT lo n=(rngV lo n).map T.a:=by simp[rngT,rngV]
 rw[this]
 exact Ims.atoms _
def rngS(as:List S):Option (List T):=match as with
 | [.v (.a (.int j))]=>if (inR 4611686018427387903 j && Nat.ble j.toNat sizeLine)=true then some (rngT 0 j.toNat) else none
 | [.v (.a (.int i)),.v (.a (.int j))]=>if (inR 4611686018427387903 i && inR 4611686018427387903 j && Nat.ble (j - i).toNat sizeLine)=true then some (rngT i (j - i).toNat) else none
 | _=>none
def rRng:List V->Hp->VK->Prop:=fun xs H Q=>(∃ j:Int,xs=[.int j]/\∀ p,H p=none->Q (.ref p) (upd H p (.rng 0 j)))\/(∃ i j:Int,xs=[.int i,.int j]/\∀ p,H p=none->Q (.ref p) (upd H p (.rng i j)))
def rOfRngL:List V->Hp->VK->Prop:=fun xs H Q=>∃ p lo hi,xs=[.ref p]/\H p=some (.rng lo hi)/\(-(2 ^ 62)<=lo/\lo < 2 ^ 62/\-(2 ^ 62)<=hi/\hi < 2 ^ 62)/\(hi - lo).toNat<=2 ^ 24/\∀ l,H l=none->Q (.ref l) (upd H l (.lst (rngV lo (hi - lo).toNat)))
def rOfRngT:List V->Hp->VK->Prop:=fun xs H Q=>∃ p lo hi,xs=[.ref p]/\H p=some (.rng lo hi)/\(-(2 ^ 62)<=lo/\lo < 2 ^ 62/\-(2 ^ 62)<=hi/\hi < 2 ^ 62)/\(hi - lo).toNat<=2 ^ 24/\∀ l,H l=none->Q (.ref l) (upd H l (.tup (rngV lo (hi - lo).toNat)))
def dListRng(fa:DA):DE:=fun Γ=>(fa Γ).bind fun p=>(rngS p.1).map fun xs=>(.l xs,p.2)
def dTupRng(fa:DA):DE:=fun Γ=>(fa Γ).bind fun p=>(rngS p.1).map fun xs=>(.v (.t xs),p.2)
theorem zDt{C:Fr}{w:W}{Γ:En}{σ:St}{H:Hp}{vs:List V}{as:List S}{xs:List T}{Q:VK}(R:Rep K C w Γ σ H)(o:SOks K C w σ H vs as)(e:rngS as=some xs)
  (k:∀ p lo hi,H p=none->(-(2 ^ 62)<=lo/\lo < 2 ^ 62/\-(2 ^ 62)<=hi/\hi < 2 ^ 62)->(hi - lo).toNat<=2 ^ 24->xs=rngT lo (hi - lo).toNat->Q (.ref p) (upd H p (.rng lo hi))):rRng vs H Q:=by
 have hs:sizeLine=2 ^ 24:=by rw[sizeLine_eq]
 unfold rngS at e
 split at e
 ·split at e
  ·rename_i j hj0
   have hj:=fit1 hj0
   cases e
   obtain⟨v,rfl,o2⟩:=soks1 o
   refine .inl ⟨_,by rw[o2.inva],fun p hp=>k p 0 _ hp ⟨by decide,by decide,hj.1,hj.2.1⟩ ?_ (by rw[Int.sub_zero])⟩
   rw[Int.sub_zero]; have:=hj.2.2; omega
  ·cases e
 ·split at e
  ·rename_i j hj0
   have hj:=fit2 hj0
   cases e
   obtain⟨v,u,rfl,o2,o3⟩:=soks2 o
   exact .inr ⟨_,_,by rw[o2.inva,o3.inva],fun p hp=>k p _ _ hp hj.1 (by have:=hj.2; omega) rfl⟩
  ·cases e
 ·cases e
theorem zEV{ta:TA}{fa:DA}(ha:SimA K ta fa):SimE K (tCB rOfRngL (tCons (tCB rRng ta) tNil)) (dListRng fa):=by
 intro C w Γ σ H s Γ' Q R e k
 obtain⟨⟨as,G1⟩,e1,e⟩:=bind_some e
 obtain⟨xs,e2,e⟩:=zAA e
 cases e
 refine ha C w Γ σ H as G1 _ R e1 fun vs H1 R1 ev1 o1 n1=>?_
 refine zDt R1 o1 e2 fun p lo hi hp hb hz hx=>?_
 have R2:Rep K C w G1 σ (upd H1 p (.rng lo hi)):=R1.new hp
 have ev2:Evo w.L H (upd H1 p (.rng lo hi)):=ev1.trans (Evo.new hp)
 refine⟨p,lo,hi,rfl,zAF,hb,hz,fun l hl=>?_⟩
 subst hx
 exact k _ _ (R2.new hl) (ev2.trans (Evo.new hl)) (R2.newl hl (zD1 _ _)) ⟨l,rfl,zAK ev2 R2.lst hl⟩
theorem zFU{ta:TA}{fa:DA}(ha:SimA K ta fa):SimE K (tCB rOfRngT (tCons (tCB rRng ta) tNil)) (dTupRng fa):=by
 intro C w Γ σ H s Γ' Q R e k
 obtain⟨⟨as,G1⟩,e1,e⟩:=bind_some e
 obtain⟨xs,e2,e⟩:=zAA e
 cases e
 refine ha C w Γ σ H as G1 _ R e1 fun vs H1 R1 ev1 o1 n1=>?_
 refine zDt R1 o1 e2 fun p lo hi hp hb hz hx=>?_
 have R2:Rep K C w G1 σ (upd H1 p (.rng lo hi)):=R1.new hp
 have ev2:Evo w.L H (upd H1 p (.rng lo hi)):=ev1.trans (Evo.new hp)
 refine⟨p,lo,hi,rfl,zAF,hb,hz,fun l hl=>?_⟩
 subst hx
 exact k _ _ (R2.new hl) (ev2.trans (Evo.new hl)) (R2.newt hl (zD1 _ _)) trivial
theorem zHO{ip:Option Nat}{i j:Nat}{ta:TA}{fa:DA}(ha:SimA K ta fa)(hi:ip≠some i)(hj:ip≠some j):SimS K ip (tPar i j ta) (fun Γ=>(fa Γ).bind fun p=>match p.1 with
  | [.v a,.v b]=>some (.nx ((p.2.set i (some (.v a))).set j (some (.v b))))
  | _=>none):=by
 intro C w Γ σ H D o hp R e k
 obtain⟨⟨as,G1⟩,e1,e⟩:=bind_some e
 dsimp only at e
 split at e
 ·cases e
  refine ha C w Γ σ H _ G1 _ R e1 fun vs H1 R1 ev1 o1 n1=>?_
  obtain⟨v,u,rfl,o2,o3⟩:=soks2 o1
  exact⟨v,u,rfl,k w _ H1 ((R1.setv (g:=.v _) rfl o2 (zAM hp hi)).setv (g:=.v _) rfl o3 (zAM hp hj))⟩
 ·cases e
def dPar2(i j:Nat)(fa:DA):DS:=fun Γ=>(fa Γ).bind fun p=>match p.1 with
  | [.v a,.v b]=>some (.nx ((p.2.set i (some (.v a))).set j (some (.v b))))
  | _=>none
def dPar3(i j k:Nat)(fa:DA):DS:=fun Γ=>(fa Γ).bind fun p=>match p.1 with
  | [.v a,.v b,.v c]=>some (.nx (((p.2.set i (some (.v a))).set j (some (.v b))).set k (some (.v c))))
  | _=>none
theorem soks3{C:Fr}{w:W}{σ:St}{H:Hp}{vs:List V}{a b c:S}(h:SOks K C w σ H vs [a,b,c]):∃ v u z,vs=[v,u,z]/\SOk K C w σ H v a/\SOk K C w σ H u b/\SOk K C w σ H z c:=by
 match vs,h with
 | [v,u,z],h=>exact⟨v,u,z,rfl,h.1,h.2.1,h.2.2.1⟩
theorem zGP{ip:Option Nat}{i j k:Nat}{ta:TA}{fa:DA}(ha:SimA K ta fa)(hi:ip≠some i)(hj:ip≠some j)(hk:ip≠some k):SimS K ip (tPar3 i j k ta) (dPar3 i j k fa):=by
 intro C w Γ σ H D o hp R e kk
 obtain⟨⟨as,G1⟩,e1,e⟩:=bind_some e
 dsimp only at e
 split at e
 ·cases e
  refine ha C w Γ σ H _ G1 _ R e1 fun vs H1 R1 ev1 o1 n1=>?_
  obtain⟨v,u,z,rfl,o2,o3,o4⟩:=soks3 o1
  exact⟨v,u,z,rfl,kk w _ H1 (((R1.setv (g:=.v _) rfl o2 (zAM hp hi)).setv (g:=.v _) rfl o3 (zAM hp hj)).setv (g:=.v _) rfl o4 (zAM hp hk))⟩
 ·cases e
def dUnp(tg:En->T->Option En)(f:DE):DS:=fun Γ=>(f Γ).bind fun p=>p.1.tree.bind fun t=>(tg p.2 t).map .nx
theorem zHK{ip:Option Nat}{te:TE}{f:DE}{g:TG}{tg:En->T->Option En}(h:SimE K te f)(hg:SimG K ip g tg):SimS K ip (tAsg te g) (dUnp tg f):=by
 intro C w Γ σ H D o hp R e k
 obtain⟨⟨s,G1⟩,e1,e⟩:=bind_some e
 obtain⟨t,e2,e⟩:=bind_some e
 obtain⟨Γ2,e3,e⟩:=zAA e
 subst e
 cases s with
 | l _=>cases e2
 | s _=>cases e2
 | d _=>cases e2
 | v t' =>
  cases e2
  refine h C w Γ σ H _ G1 _ R e1 fun v H1 R1 ev1 o1 n1=>?_
  exact hg C w G1 σ H1 v t Γ2 _ hp R1 o1 e3 fun σ' R'=>k w σ' H1 R'
end
def toDa:V->Option PyData
 | .int i=>some (.int i)
 | .bl b=>some (.bool b)
 | .str x=>some (.str x)
 | .non=>some .none
 | _=>none
mutual
def toD:T->Option PyData
 | .a v=>toDa v
 | .t ts=>(toDs ts).map .tuple
 | .l ts=>(toDs ts).map .list
 | .f _=>none
 | .x _ _=>none
def toDs:List T->Option (List PyData)
 | []=>some []
 | t::r=>(toD t).bind fun d=>(toDs r).map fun ds=>d::ds
end
mutual
theorem zD6{X:Cx}{pins:List (Addr×Obj)}{σ:St}{H:Hp}{s:Shared}(I:Inv X pins σ H s):∀ {v:V} {u:Value} {t:T} {d:PyData},Im X.K H v t->RelV v u->toD t=some d->∃ as,Reads s.heap u d as
 | v,u,.a x,d,h,r,e=>by
  have hv:=h.inva
  subst hv
  unfold toD at e
  cases v with
  | int i=>cases e; obtain⟨t,rfl⟩:=(show ∃ t,u=Value.int i t from r); exact⟨_,.int i t⟩
  | bl b=>cases e; cases (show u=Value.bool b from r); exact⟨_,.bool b⟩
  | str x=>cases e; obtain⟨t,rfl⟩:=(show ∃ t,u=Value.str x t from r); exact⟨_,.str x t⟩
  | non=>cases e; cases (show u=Value.none from r); exact⟨_,.none⟩
  | byt _=>cases e
  | flt _=>cases e
  | ref _=>cases e
  | ty _=>cases e
 | v,u,.t ts,d,h,r,e=>by
  obtain⟨p,vs,rfl,h1,h2⟩:=h.inv
  cases (show u=Value.ref p from r)
  unfold toD at e
  obtain⟨ds,e1,rfl⟩:=zAA e
  obtain⟨its,rv,⟨o,ho,hc,n,hd⟩,_⟩:=I.tuple h1.sq
  obtain⟨as,q⟩:=zAj I h2 rv e1
  exact⟨as,.tuple ho hc hd (by simpa using q)⟩
 | v,u,.l ts,d,h,r,e=>by
  obtain⟨p,vs,rfl,h1,h2⟩:=h.invl
  cases (show u=Value.ref p from r)
  unfold toD at e
  obtain⟨ds,e1,rfl⟩:=zAA e
  obtain⟨its,rv,pl,_⟩:=I.list h1.sq
  obtain⟨o,ho,hc,n,hd⟩:=pl.isList
  obtain⟨as,q⟩:=zAj I h2 rv e1
  exact⟨_,.list ho hc hd (by simpa using q)⟩
 | v,u,.f _,d,h,r,e=>by unfold toD at e; cases e
 | v,u,.x _ _,d,h,r,e=>by unfold toD at e; cases e
theorem zAj{X:Cx}{pins:List (Addr×Obj)}{σ:St}{H:Hp}{s:Shared}(I:Inv X pins σ H s):∀ {vs:List V} {us:List Value} {ts:List T} {ds:List PyData},Ims X.K H vs ts->Vals vs us->toDs ts=some ds->∃ as,ReadsAll s.heap us ds as
 | vs,us,[],ds,h,r,e=>by
  have:=h.inv0
  subst this
  cases r
  unfold toDs at e
  cases e
  exact⟨_,.nil⟩
 | vs,us,t::ts,ds,h,r,e=>by
  obtain⟨v,r',rfl,h1,h2⟩:=h.inv
  unfold toDs at e
  obtain⟨d,e1,e⟩:=bind_some e
  obtain⟨ds',e2,rfl⟩:=zAA e
  cases r with
  | cons r1 r2 =>
   obtain⟨as,q1⟩:=zD6 I h1 r1 e1
   obtain⟨bs,q2⟩:=zAj I h2 r2 e2
   exact⟨_,ReadsAll.cons q1 q2⟩
end
def DatV(K:Fg)(H:Hp)(x:V)(d:PyData):Prop:=(∃ t,Im K H x t/\toD t=some d)\/(∃ p vs ts ds,x=.ref p/\SqL K H p vs/\Ims K H vs ts/\toDs ts=some ds/\d=.list ds)
theorem zAq{X:Cx}{pins:List (Addr×Obj)}{σ:St}{H:Hp}{s:Shared}{x:V}{u:Value}{d:PyData}(I:Inv X pins σ H s)(r:RelV x u)(h:DatV X.K H x d):∃ as,Reads s.heap u d as:=by
 rcases h with ⟨t,h,e⟩ | ⟨p,vs,ts,ds,rfl,h1,h2,e,rfl⟩
 ·exact zD6 I h r e
 ·cases (show u=Value.ref p from r)
  obtain⟨its,rv,pl,_⟩:=I.list h1
  obtain⟨o,ho,hc,n,hd⟩:=pl.isList
  obtain⟨as,q⟩:=zAj I h2 rv e
  exact⟨_,.list ho hc hd (by simpa using q)⟩
def rEqD(K:Fg):R2:=fun x y H Q=>∃ da db,DatV K H x da/\DatV K H y db/\da.canLay0=true/\db.canLay0=true/\min da.depth db.depth<=100/\Q (.bl (PyData.eqv da db)) H
def rNeD(K:Fg):R2:=fun x y H Q=>∃ da db,DatV K H x da/\DatV K H y db/\da.canLay0=true/\db.canLay0=true/\min da.depth db.depth<=100/\Q (.bl (!PyData.eqv da db)) H
theorem zJQ{X:Cx}{k:Nat}(hr:Room k X.A):OpR X (compareOp .Eq) (rEqD X.K):=by
 intro pins s σ H x y v u Q I rx ry h
 obtain⟨da,db,h1,h2,c1,c2,hm,q⟩:=h
 obtain⟨_,r1⟩:=zAq I rx h1
 obtain⟨_,r2⟩:=zAq I ry h2
 exact SeqAt.compareEq_reads r1 r2 c1 c2 (by have:=hr.un; omega) ⟨.bl _,H,I,rfl,q⟩
theorem zJX{X:Cx}{k:Nat}(hr:Room k X.A):OpR X (compareOp .NotEq) (rNeD X.K):=by
 intro pins s σ H x y v u Q I rx ry h
 obtain⟨da,db,h1,h2,c1,c2,hm,q⟩:=h
 obtain⟨_,r1⟩:=zAq I rx h1
 obtain⟨_,r2⟩:=zAq I ry h2
 exact SeqAt.compareNe_reads r1 r2 c1 c2 (by have:=hr.un; omega) ⟨.bl _,H,I,rfl,q⟩
def datS(Γ:En):S->Option PyData
 | .v t=>toD t
 | a=>(sqlOf Γ a).bind fun xs=>(toDs xs).map .list
theorem zB6{K:Fg}{C:Fr}{w:W}{Γ:En}{σ:St}{H:Hp}{x:V}{s:S}{d:PyData}(R:Rep K C w Γ σ H)(o:SOk K C w σ H x s)(e:datS Γ s=some d):DatV K H x d:=by
 have lst:∀ {s:S},SOk K C w σ H x s->(sqlOf Γ s).bind (fun xs=>(toDs xs).map PyData.list)=some d->DatV K H x d:=fun {s} o e=>by
  obtain⟨xs,e1,e⟩:=bind_some e
  obtain⟨ds,e2,rfl⟩:=zAA e
  obtain⟨p,vs,rfl,h1,h2⟩:=zAY R o e1
  exact .inr ⟨p,vs,xs,ds,rfl,h1,h2,e2,rfl⟩
 cases s with
 | v t=>exact .inl ⟨t,o,e⟩
 | l xs=>exact lst o e
 | s i=>exact lst o e
 | d _=>cases e
def cmpD(f:PyData->PyData->Bool):En->S->S->Option S:=fun Γ a b=>(datS Γ a).bind fun da=>(datS Γ b).bind fun db=>if da.canLay0=true/\db.canLay0=true/\min da.depth db.depth<=100 then some (mkB (f da db)) else none
def eqA(f:V->V->Bool):En->S->S->Option S:=fun _ a b=>match a,b with
 | .v (.a x),.v (.a y)=>if scal x y=true then some (mkB (f x y)) else none
 | _,_=>none
theorem zGW{K:Fg}:SimR2 K rEq (eqA fun x y=>decide (x=y)):=by
 intro C w Γ σ H x y a b s Q R ox oy e k
 unfold eqA at e
 split at e
 ·split at e
  ·rename_i h
   cases e
   rw[ox.inva,oy.inva]
   exact⟨h,k _ H R .refl SOk.atom trivial⟩
  ·cases e
 ·cases e
theorem zGH{K:Fg}:SimR2 K rNe (eqA fun x y=>!decide (x=y)):=by
 intro C w Γ σ H x y a b s Q R ox oy e k
 unfold eqA at e
 split at e
 ·split at e
  ·rename_i h
   cases e
   rw[ox.inva,oy.inva]
   exact⟨h,k _ H R .refl SOk.atom trivial⟩
  ·cases e
 ·cases e
def eqS:En->S->S->Option S:=fun Γ a b=>(eqA (fun x y=>decide (x=y)) Γ a b).or (cmpD PyData.eqv Γ a b)
def neS:En->S->S->Option S:=fun Γ a b=>(eqA (fun x y=>!decide (x=y)) Γ a b).or (cmpD (fun a b=>!PyData.eqv a b) Γ a b)
theorem zGa{K:Fg}:SimR2 K (rEqD K) (cmpD PyData.eqv):=by
 intro C w Γ σ H x y a b s Q R ox oy e k
 obtain⟨da,e1,e⟩:=bind_some e
 obtain⟨db,e2,e⟩:=bind_some e
 split at e
 ·rename_i h
  cases e
  exact⟨da,db,zB6 R ox e1,zB6 R oy e2,h.1,h.2.1,h.2.2,k _ H R .refl SOk.atom trivial⟩
 ·cases e
theorem zGk{K:Fg}:SimR2 K (rNeD K) (cmpD fun a b=>!PyData.eqv a b):=by
 intro C w Γ σ H x y a b s Q R ox oy e k
 obtain⟨da,e1,e⟩:=bind_some e
 obtain⟨db,e2,e⟩:=bind_some e
 split at e
 ·rename_i h
  cases e
  exact⟨da,db,zB6 R ox e1,zB6 R oy e2,h.1,h.2.1,h.2.2,k _ H R .refl SOk.atom trivial⟩
 ·cases e
theorem zHV{K:Fg}:SimR2 K (fun x y H Q=>rEq x y H Q\/rEqD K x y H Q) eqS:=zGW.or zGa
theorem zHl{K:Fg}:SimR2 K (fun x y H Q=>rNe x y H Q\/rNeD K x y H Q) neS:=zGH.or zGk
theorem zJY{X:Cx}{k:Nat}(hr:Room k X.A):OpR X (compareOp .Eq) (fun x y H Q=>rEq x y H Q\/rEqD X.K x y H Q):=zKD.or (zJQ hr)
theorem zJU{X:Cx}{k:Nat}(hr:Room k X.A):OpR X (compareOp .NotEq) (fun x y H Q=>rNe x y H Q\/rNeD X.K x y H Q):=zKM.or (zJX hr)
def reprS:En->List S->Option S:=fun Γ as=>match as with
 | [a]=>(datS Γ a).bind fun d=>if d.showable=true/\d.hasDict=false/\d.depth<=100/\d.shown.length<=sizeLine then some (.v (.a (.str d.shown))) else none
 | _=>none
def inS(neg:Bool):En->S->S->Option S:=fun Γ a b=>match a with
 | .v (.a x)=>(seqS Γ b).bind fun xs=>(atomsOf xs).bind fun vs=>if flatV x=true/\vs.all flatV=true then some (mkB (if neg then !inV x vs else inV x vs)) else none
 | _=>none
theorem zGz{K:Fg}{neg:Bool}:SimR2 K (rIn K neg) (inS neg):=by
 intro C w Γ σ H x y a b s Q R ox oy e k
 unfold inS at e
 split at e
 ·obtain⟨xs,e1,e⟩:=bind_some e
  obtain⟨vs,e2,e⟩:=bind_some e
  split at e
  ·rename_i h
   cases e
   obtain⟨p,us,rfl,h1,i1⟩:=zFo R oy e1
   have:=zBx i1 e2
   subst this
   rw[ox.inva]
   exact⟨p,us,rfl,h1,h.1,h.2,k _ H R .refl SOk.atom trivial⟩
  ·cases e
 ·cases e
def truS(Γ:En):S->Option Bool
 | .v (.a .non)=>some false
 | .v (.a (.bl b))=>some b
 | .v (.a (.int i))=>some (i != 0)
 | .v (.a (.str y))=>if y.length<=sizeLine then some ((y.length:Int) != 0) else none
 | .v (.t xs)=>some (!xs.isEmpty)
 | .v _=>none
 | a=>(sqlOf Γ a).map fun xs=>!xs.isEmpty
def dTru(f:DE):DT:=fun Γ=>(f Γ).bind fun p=>(truS p.2 p.1).map fun b=>(b,p.2)
theorem Ims.isEmpty{K:Fg}{H:Hp}{vs:List V}{ts:List T}(h:Ims K H vs ts):vs.isEmpty=ts.isEmpty:=by
 have:=h.len
 cases vs <;> cases ts <;> simp at this ⊢
theorem zE2{K:Fg}{te:TE}{f:DE}(h:SimE K te f):SimT K (fun σ H Q=>te σ H fun x H'=>∃ k,TruV K x H' k/\Q k H') (dTru f):=by
 intro C w Γ σ H b Γ' Q R e k
 obtain⟨⟨a,G1⟩,e1,e⟩:=bind_some e
 obtain⟨b',e2,e⟩:=zAA e
 cases e
 refine h C w Γ σ H a _ _ R e1 fun v H1 R1 ev1 o1 n1=>⟨b,?_,k H1 R1 ev1⟩
 dsimp only at e2
 unfold truS at e2
 split at e2
 ·cases e2; rw[o1.inva]; exact rfl
 ·cases e2; rw[o1.inva]; exact rfl
 ·cases e2; rw[o1.inva]; exact rfl
 ·split at e2
  ·rename_i hz
   cases e2; rw[o1.inva]; exact⟨hz,rfl⟩
  ·cases e2
 ·cases e2
  obtain⟨p,us,rfl,h1,i1⟩:=o1.invt
  exact .inr (.inl ⟨us,h1.sq,by rw[i1.isEmpty]⟩)
 ·cases e2
 ·obtain⟨xs,e3,e2⟩:=zAA e2
  subst e2
  obtain⟨p,us,rfl,h1,i1⟩:=zAY R1 o1 e3
  exact .inl ⟨us,h1,by rw[i1.isEmpty]⟩
def EX{ι:Type}(K:Fg)(X:ι->Cx)(e:Expr)(f:DE):Prop:=∃ te,(∀ j,PE (X j) e te)/\SimE K te f
def TX{ι:Type}(K:Fg)(X:ι->Cx)(e:Expr)(f:DT):Prop:=∃ t,(∀ j,PT (X j) e t)/\SimT K t f
def WX{ι:Type}(K:Fg)(X:ι->Cx)(e:Expr)(f:DT):Prop:=∃ t,(∀ j,PW (X j) e t)/\SimT K t f
def AX{ι:Type}(K:Fg)(X:ι->Cx)(es:List Expr)(f:DA):Prop:=∃ t,(∀ j,PA (X j) es t)/\SimA K t f
def OX{ι:Type}(K:Fg)(X:ι->Cx)(e:Option Expr)(f:DO):Prop:=∃ t,(∀ j,PO (X j) e t)/\SimO K t f
def IX{ι:Type}(K:Fg)(X:ι->Cx)(tg it:Expr)(f:DI):Prop:=∃ t,(∀ j,PI (X j) tg it t)/\SimI K t f
def GX{ι:Type}(K:Fg)(X:ι->Cx)(ip:Option Nat)(tg:Expr)(f:En->T->Option En):Prop:=∃ t,(∀ j,PG (X j) tg t)/\SimG K ip t f
def GXs{ι:Type}(K:Fg)(X:ι->Cx)(ip:Option Nat)(tg:List Expr)(f:En->List T->Option En):Prop:=∃ t,(∀ j,PGs (X j) tg t)/\SimGs K ip t f
def SX{ι:Type}(K:Fg)(X:ι->Cx)(ip:Option Nat)(s:Stmt)(f:DS):Prop:=∃ t,(∀ j,PS (X j) s t)/\SimS K ip t f
def BX{ι:Type}(K:Fg)(X:ι->Cx)(ip:Option Nat)(s:List Stmt)(f:DS):Prop:=∃ t,(∀ j,PSs (X j) s t)/\SimS K ip t f
structure Fm{ι:Type}(K:Fg)(mg:Str->Option Value)(k:Nat)(X:ι->Cx):Prop where
 K:∀ j,(X j).K=K
 mg:∀ j,(X j).mg=mg
 calm:∀ j,(X j).calm=true
 room:∀ j,Room k (X j).A
section
variable {ι:Type}{K:Fg}{mg:Str->Option Value}{k:Nat}{X:ι->Cx}{ip:Option Nat}{a b c e:Expr}{es:List Expr}{pos:Pos}{fa fb fc:DE}{ta tb:DT}{da:DA}
theorem jZ(i:Nat){x:Str}(hN:∀ j,(X j).N[i]?=some x:=by intro _; rfl)(hv:∀ j,Vis (X j).env.scope x:=by intro _; first | exact Or.inl rfl | exact Or.inr (Or.inl rfl) | exact Or.inr (Or.inr rfl))(hd:(x == ("__debug__":Str))=false:=by decide)
  (hcd:(x == ("__classdict__":Str))=false:=by decide):EX K X (.Name x pos) (jV i):=⟨tVar i,fun j=>zB4 (hN j) (hv j) hd hcd,zIl⟩
theorem jJ{i:Int}{u}:EX K X (.Constant (.int i) u pos) (dC (.int i)):=⟨_,fun _=>zJT,zCL⟩
theorem ex_bl{v:Bool}{u}:EX K X (.Constant (.bool v) u pos) (dC (.bl v)):=⟨_,fun _=>zKA,zCL⟩
theorem ex_str{v:Str}{u}:EX K X (.Constant (.str v) u pos) (dC (.str v)):=⟨_,fun _=>zJD,zCL⟩
theorem ex_ty{x:Str}{N:String}(M:Fm K mg k X)(hm:mg x=none)(hv:bootBuiltins x=some (.type N))(hg:∀ j,Gl (X j) x:=by intro _; rfl)(hn:x≠"__name__":=by decide)(hd:(x == ("__debug__":Str))=false:=by decide):EX K X (.Name x pos) (dC (.ty N)) :=
 ⟨_,fun j=>zHx (hg j) (by rw[M.mg]; exact hm) hv hn hd,zCL⟩
theorem zBX{op:Operator}{r:R2}{h:En->S->S->Option S}(ho:∀ j,OpR (X j) (binaryOp op) r)(hs:SimR2 K r h)(ha:EX K X a fa)(hb:EX K X b fb):EX K X (.BinOp a op b pos) (dOp h fa fb) :=
 let ⟨_,p,s⟩:=ha; let ⟨_,q,u⟩:=hb; ⟨_,fun j=>zJ6 (ho j) (p j) (q j),zB8 hs s u⟩
theorem ex_add(M:Fm K mg k X)(ha:EX K X a fa)(hb:EX K X b fb):EX K X (.BinOp a .Add b pos) (dOp addS fa fb):=zBX (fun j=>by rw[← M.K j]; exact zIN) zF1 ha hb
theorem ex_sub(ha:EX K X a fa)(hb:EX K X b fb):EX K X (.BinOp a .Sub b pos) (dOp subS fa fb):=zBX (fun j=>zJe) zAm ha hb
theorem zAt(ha:EX K X a fa)(hb:EX K X b fb):EX K X (.BinOp a .Mult b pos) (dOp mulS fa fb):=zBX (fun j=>zIk) zGL ha hb
theorem zAk(ha:EX K X a fa)(hb:EX K X b fb):EX K X (.BinOp a .Mod b pos) (dOp modS fa fb):=zBX (fun j=>zJf) zA4 ha hb
theorem zEn(ha:EX K X a fa)(hb:EX K X b fb):EX K X (.BinOp a .FloorDiv b pos) (dOp fdivS fa fb):=zBX (fun j=>zIH) zA4 ha hb
theorem zJz(ha:EX K X a fa)(hb:EX K X b fb):EX K X (.BinOp a .Pow b pos) (dOp powS fa fb):=zBX (fun j=>zJN) zA4 ha hb
theorem zGp(ha:EX K X a fa):EX K X (.UnaryOp .USub a pos) (dUn negS fa):=let ⟨_,p,s⟩:=ha; ⟨_,fun j=>zKB zI9 (p j),zJA zGq s⟩
theorem zJV{op:CmpOp}{r:R2}{h:En->S->S->Option S}(ho:∀ j,OpR (X j) (compareOp op) r)(hs:SimR2 K r h)(hm:behindInMarks op b=false)(ha:EX K X a fa)(hb:EX K X b fb):EX K X (.Compare a [op] [b] pos) (dOp h fa fb) :=
 let ⟨_,p,s⟩:=ha; let ⟨_,q,u⟩:=hb; ⟨_,fun j=>zID (ho j) (p j) (q j) hm,zB8 hs s u⟩
theorem zJd{op:CmpOp}{r:R2}{h:En->S->S->Option S}(ho:∀ j,OpR (X j) (compareOp op) r)(hs:SimR2 K r h)(hm:behindInMarks op b=false)(ha:EX K X a fa)(hb:EX K X b fb):TX K X (.Compare a [op] [b] pos) (dTest (dOp h fa fb)) :=
 let ⟨_,p,s⟩:=ha; let ⟨_,q,u⟩:=hb; ⟨_,fun j=>zIB (ho j) (p j) (q j) hm,zDa (zB8 hs s u)⟩
structure CmpR{ι:Type}(K:Fg)(X:ι->Cx)(op:CmpOp)(h:En->S->S->Option S):Prop where
 ex:∃ r,(∀ j,OpR (X j) (compareOp op) r)/\SimR2 K r h
theorem cr_lt:CmpR K X .Lt ltS:=⟨_,fun _=>zJ7,zAm⟩
theorem zCE:CmpR K X .Gt gtS:=⟨_,fun _=>zKI,zAm⟩
theorem zJ8:CmpR K X .GtE geS:=⟨_,fun _=>zKE,zAm⟩
theorem cr_eq(M:Fm K mg k X):CmpR K X .Eq eqS:=⟨_,fun j=>by have:=zJY (M.room j); rw[M.K j]at this; exact this,zHV⟩
theorem cr_ne(M:Fm K mg k X):CmpR K X .NotEq neS:=⟨_,fun j=>by have:=zJU (M.room j); rw[M.K j]at this; exact this,zHl⟩
theorem cr_notIn(M:Fm K mg k X):CmpR K X .NotIn (inS true):=⟨_,fun j=>by have:=zDj (X:=X j); rw[M.K j]at this; exact this,zGz⟩
theorem ex_c{op:CmpOp}{h:En->S->S->Option S}(hc:CmpR K X op h)(ha:EX K X a fa)(hb:EX K X b fb)(hm:behindInMarks op b=false:=by first | exact nomark _ | with_unfolding_all rfl):EX K X (.Compare a [op] [b] pos) (dOp h fa fb) :=
 let ⟨_,p,q⟩:=hc.ex; zJV p q hm ha hb
theorem tx_c{op:CmpOp}{h:En->S->S->Option S}(hc:CmpR K X op h)(ha:EX K X a fa)(hb:EX K X b fb)(hm:behindInMarks op b=false:=by first | exact nomark _ | with_unfolding_all rfl):TX K X (.Compare a [op] [b] pos) (dTest (dOp h fa fb)) :=
 let ⟨_,p,q⟩:=hc.ex; zJd p q hm ha hb
theorem tx_v(M:Fm K mg k X)(ha:EX K X a fa)(he:∀ j whole,isTrue a (X j).env whole=(do let v ← whole; standAt a.pos; holding [v] (truthy v)):=by intro _ _; rfl):TX K X a (dTru fa) :=
 let ⟨te,p,s⟩:=ha; ⟨(fun σ H Q=>te σ H fun x H'=>∃ k,TruV K x H' k/\Q k H'),fun j=>by have:=zDq (p j) (he j); rw[M.K j]at this; exact this,zE2 s⟩
theorem tx_not(ha:TX K X a ta):TX K X (.UnaryOp .Not a pos) (dNot ta):=let ⟨_,p,s⟩:=ha; ⟨_,fun j=>zJu (p j),zIf s⟩
theorem zEd(ha:TX K X a ta):WX K X (.BoolOp .And [a] pos) ta:=let ⟨_,p,s⟩:=ha; ⟨_,fun j=>zIZ (p j),s⟩
theorem wx_or1(ha:TX K X a ta):WX K X (.BoolOp .Or [a] pos) ta:=let ⟨_,p,s⟩:=ha; ⟨_,fun j=>zJo (p j),s⟩
theorem zGo(ha:TX K X a ta)(hb:WX K X (.BoolOp .And (b::es) pos) tb):WX K X (.BoolOp .And (a::b::es) pos) (dAnd ta tb):=let ⟨_,p,s⟩:=ha; let ⟨_,q,u⟩:=hb; ⟨_,fun j=>zJM (p j) (q j),zIb s u⟩
theorem wx_or(ha:TX K X a ta)(hb:WX K X (.BoolOp .Or (b::es) pos) tb):WX K X (.BoolOp .Or (a::b::es) pos) (dOr ta tb):=let ⟨_,p,s⟩:=ha; let ⟨_,q,u⟩:=hb; ⟨_,fun j=>zJ5 (p j) (q j),zJS s u⟩
theorem tx_w(ha:WX K X a ta):TX K X a ta:=let ⟨_,p,s⟩:=ha; ⟨_,fun j=>(p j).pt,s⟩
theorem ex_one{op}(ha:EX K X a fa):EX K X (.BoolOp op [a] pos) fa:=let ⟨_,p,s⟩:=ha; ⟨_,fun j=>zJK (p j),s⟩
theorem ex_and(ha:EX K X a fa)(hb:EX K X (.BoolOp .And (b::es) pos) fb):EX K X (.BoolOp .And (a::b::es) pos) (dAndV fa fb):=let ⟨_,p,s⟩:=ha; let ⟨_,q,u⟩:=hb; ⟨_,fun j=>zJv (p j) (q j),zHB s u⟩
theorem jY:AX K X [] qQ:=⟨_,fun _=>zBL,zEp⟩
theorem jQ{fr:DA}(ha:EX K X e fa)(hr:AX K X es fr)(hs:∀ j,starEach (e::es) (X j).env=(false,eval e (X j).env)::starEach es (X j).env:=by intro _; rfl):AX K X (e::es) (jW fa fr) :=
 let ⟨_,p,s⟩:=ha; let ⟨_,q,u⟩:=hr; ⟨_,fun j=>zBc (p j) (q j) (hs j),zHu s u⟩
theorem ex_tup{x1}(h:AX K X es da):EX K X (.Tuple es x1 pos) (dTup da):=let ⟨_,p,s⟩:=h; ⟨_,fun j=>zFx (p j),zIw s⟩
theorem ex_lst(h:AX K X es da):EX K X (.List es pos) (dLst da):=let ⟨_,p,s⟩:=h; ⟨_,fun j=>zJZ (p j),zI0 s⟩
theorem ex_ix(M:Fm K mg k X)(ha:EX K X a fa)(hb:EX K X b fb)(hs:PlainIx b:=by exact fun _ _=>rfl):EX K X (.Subscript a b pos) (dOp ixS fa fb) :=
 let ⟨_,p,s⟩:=ha; let ⟨_,q,u⟩:=hb; ⟨_,fun j=>zJ9 (by have:=zJl (X:=X j); rw[M.K j]at this; exact this) (p j) (q j) hs,zB8 zHa s u⟩
theorem ox_none:OX K X none dNoPart:=⟨_,fun _=>zH5,zE7⟩
theorem ox_some(ha:EX K X a fa):OX K X (some a) (dPart fa):=let ⟨_,p,s⟩:=ha; ⟨_,fun j=>zIL (p j),zHb s⟩
theorem ex_sl(M:Fm K mg k X){lo hi:Option Expr}{p2:Pos}{dl dh:DO}(ha:EX K X a fa)(hl:OX K X lo dl)(hh:OX K X hi dh):EX K X (.Subscript a (.Slice lo hi none p2) pos) (dSl fa dl dh) :=
 let ⟨_,p,s⟩:=ha; let ⟨_,q,u⟩:=hl; let ⟨_,q',u'⟩:=hh; ⟨_,fun j=>zDv (by have:=sl_S (X:=X j); rw[M.K j]at this; exact this) (p j) (q j) (q' j),zJO s u u'⟩
structure CalR{ι:Type}(K:Fg)(X:ι->Cx)(f:Value)(h:En->List S->Option S):Prop where
 ex:∃ r,(∀ j,CallR (X j) f r)/\SimRs K r h
theorem ex_cb{x:Str}{p:Pos}{id:String}{h:En->List S->Option S}(M:Fm K mg k X)(hc:CalR K X (.builtin id) h)(hm:mg x=none)(hv:bootBuiltins x=some (.builtin id))(ha:AX K X (e::es) da)(hg:∀ j,Gl (X j) x:=by intro _; rfl)(hn:x≠"__name__":=by decide)(hdb:(x == ("__debug__":Str))=false:=by decide)
  (he:∀ j,starEach (e::es) (X j).env=(false,eval e (X j).env)::starEach es (X j).env:=by intro _; rfl) (hpl:∀ j,(backTo pos (starEach es (X j).env)).any (·.1)=false:=by intro _; rfl):EX K X (.Call (.Name x p) (e::es) [] pos) (dCB h da) :=
 let ⟨_,p,s⟩:=hc.ex; let ⟨_,q,u⟩:=ha; ⟨_,fun j=>zEJ (p j) (hg j) (by rw[M.mg]; exact hm) hv (q j) hn hdb (he j) (hpl j),zDR s u⟩
theorem ex_ct{x:Str}{p:Pos}{N:String}{h:En->List S->Option S}(M:Fm K mg k X)(hc:CalR K X (.type N) h)(hm:mg x=none)(hv:bootBuiltins x=some (.type N))(ha:AX K X (e::es) da)(hg:∀ j,Gl (X j) x:=by intro _; rfl)(hn:x≠"__name__":=by decide)(hdb:(x == ("__debug__":Str))=false:=by decide)
  (he:∀ j,starEach (e::es) (X j).env=(false,eval e (X j).env)::starEach es (X j).env:=by intro _; rfl) (hpl:∀ j,(backTo pos (starEach es (X j).env)).any (·.1)=false:=by intro _; rfl):EX K X (.Call (.Name x p) (e::es) [] pos) (dCB h da) :=
 let ⟨_,p,s⟩:=hc.ex; let ⟨_,q,u⟩:=ha; ⟨_,fun j=>zAn (p j) (hg j) (by rw[M.mg]; exact hm) hv (q j) hn hdb (he j) (hpl j),zDR s u⟩
theorem br_len(M:Fm K mg k X):CalR K X (.builtin "len") lenS:=⟨_,fun j=>by have:=zGf (X:=X j); rw[M.K j]at this; exact this,zF2⟩
theorem br_all(M:Fm K mg k X):CalR K X (.builtin "all") allS:=⟨_,fun j=>by have:=zG3 (M.calm j); rw[M.K j]at this; exact this,zFw⟩
theorem br_isi(M:Fm K mg k X):CalR K X (.builtin "isinstance") isiS:=⟨_,fun j=>by have:=zC2 (X:=X j); rw[M.K j]at this; exact this,zDC⟩
theorem tr_int:CalR K X (.type "int") intS:=⟨_,fun j=>zFp,zF0⟩
theorem tr_tuple(M:Fm K mg k X):CalR K X (.type "tuple") tupleS:=⟨_,fun j=>by have:=zDN (X:=X j); rw[M.K j]at this; exact this,zER⟩
theorem zCp{X:Cx}:CallR X (.type "range") rRng:=zGD.or zGM
theorem zFk{p p2 pos2:Pos}(M:Fm K mg k X)(hl:mg "list"=none)(hr:mg "range"=none)(ha:AX K X (e::es) da)(hg:∀ j,Gl (X j) "list":=by intro _; rfl)(hg2:∀ j,Gl (X j) "range":=by intro _; rfl)
  (he:∀ j,starEach (e::es) (X j).env=(false,eval e (X j).env)::starEach es (X j).env:=by intro _; rfl) (hpl:∀ j,(backTo pos2 (starEach es (X j).env)).any (·.1)=false:=by intro _; rfl) :
  EX K X (.Call (.Name "list" p) [.Call (.Name "range" p2) (e::es) [] pos2] [] pos) (dListRng da) :=
 let ⟨_,q,u⟩:=ha; ⟨_,fun j=>zAn (zDz (M.calm j)) (hg j) (by rw[M.mg]; exact hl) PyProof.Rows.boot_list (zBc (zAn zCp (hg2 j) (by rw[M.mg]; exact hr) PyProof.Rows.boot_range (q j) (by decide) (by decide) (he j) (hpl j)) zBL),zEV u⟩
theorem zCs{p p2 pos2:Pos}(M:Fm K mg k X)(hl:mg "tuple"=none)(hr:mg "range"=none)(ha:AX K X (e::es) da)(hg:∀ j,Gl (X j) "tuple":=by intro _; rfl)(hg2:∀ j,Gl (X j) "range":=by intro _; rfl)
  (he:∀ j,starEach (e::es) (X j).env=(false,eval e (X j).env)::starEach es (X j).env:=by intro _; rfl) (hpl:∀ j,(backTo pos2 (starEach es (X j).env)).any (·.1)=false:=by intro _; rfl) :
  EX K X (.Call (.Name "tuple" p) [.Call (.Name "range" p2) (e::es) [] pos2] [] pos) (dTupRng da) :=
 let ⟨_,q,u⟩:=ha; ⟨_,fun j=>zAn (zDO (M.calm j)) (hg j) (by rw[M.mg]; exact hl) PyProof.Rows.boot_tuple (zBc (zAn zCp (hg2 j) (by rw[M.mg]; exact hr) PyProof.Rows.boot_range (q j) (by decide) (by decide) (he j) (hpl j)) zBL),zFU u⟩
end
structure Fb{ι:Type}(P:Program)(wd:World)(base:Heap)(X:ι->Cx):Prop where
 P:∀ j,(X j).prog=P
 w:∀ j,(X j).w=wd
 b:∀ j,(X j).base=base
structure FD(P:Program)(wd:World)(K:Fg)(mg:Str->Option Value)(base:Heap)(k:Nat)(x:Str)(ip:Option Nat)(n:Nat)(F:DF):Prop where
 ex:∃ (f:Addr) (fd:FuncData) (ps:List Str),FnOk P wd K mg base CX0 k f fd ps (spD K ip n F)/\mg x=some (.ref f)/\PySem.W.keepIn K (.ref f)=true/\Binds K fd ps []
 len:∀ gs r,F gs=some r->gs.length=n
theorem zBZ{ip:Option Nat}{np nN:Nat}{g:DS}:∀ gs r,fnD ip np nN g gs=some r->gs.length=np:=fun gs r e=>by
 unfold fnD at e
 split at e
 ·assumption
 ·cases e
section
variable {ι:Type}{P:Program}{wd:World}{base:Heap}{K:Fg}{mg:Str->Option Value}{k k' n:Nat}{X:ι->Cx}{ip:Option Nat}{a b c e:Expr}{es:List Expr}{pos p:Pos}{fa fb fc:DE}{ta tb:DT}{da:DA}{F:DF}{x:Str}
theorem ex_call(M:Fm K mg k X)(B:Fb P wd base X)(D0:FD P wd K mg base k' x ip n F)(ha:AX K X (e::es) da)(hk:k'<=k:=by first | exact Nat.le_refl _ | decide | omega)(hg:∀ j,Gl (X j) x:=by intro _; rfl)(hdb:(x == ("__debug__":Str))=false:=by decide)
  (he:∀ j,starEach (e::es) (X j).env=(false,eval e (X j).env)::starEach es (X j).env:=by intro _; rfl) (hpl:∀ j,(backTo pos (starEach es (X j).env)).any (·.1)=false:=by intro _; rfl) :
  EX K X (.Call (.Name x p) (e::es) [] pos) (dCall ip F [] da):=by
 obtain⟨f,fd,ps,h1,h2,h3,h4⟩:=D0.ex
 obtain⟨t,q,u⟩:=ha
 refine⟨tCall (spD K ip n F) [] E0 t,fun j=>?_,zB3 D0.len u⟩
 have hF:FnOk (X j).prog (X j).w (X j).K (X j).mg (X j).base CX0 k' f fd ps (spD K ip n F):=by rw[B.P,B.w,M.K,M.mg,B.b]; exact h1
 exact zH1 hF ((M.room j).mono hk) (hg j) (by rw[M.mg]; exact h2) (by rw[M.K]; exact h3) (by rw[M.K]; exact h4) .nil pass0 (q j) hdb (he j) (hpl j)
theorem ix_seq'{tg l:Expr}(M:Fm K mg k X)(hl:EX K X l fa):IX K X tg l (dSeqI fa):=let ⟨t,p,s⟩:=hl; ⟨iSeq K t,fun j=>by have:=zIQ (tg:=tg) (p j); rw[M.K j]at this; exact this,zGy s⟩
theorem ix_rng1{tg:Expr}(M:Fm K mg k X)(hm:mg "range"=none)(ha:AX K X [a] da)(hg:∀ j,Gl (X j) "range":=by intro _; rfl)(hs:∀ j,starEach [a] (X j).env=[(false,eval a (X j).env)]:=by intro _; rfl):IX K X tg (.Call (.Name "range" p) [a] [] pos) (dRng1 da) :=
 let ⟨_,q,u⟩:=ha; ⟨_,fun j=>zGK (hg j) (by rw[M.mg]; exact hm) (q j) (hs j),zGC u⟩
theorem ix_rng2{tg:Expr}(M:Fm K mg k X)(hm:mg "range"=none)(ha:AX K X [a,b] da)(hg:∀ j,Gl (X j) "range":=by intro _; rfl)(hs:∀ j,starEach [a,b] (X j).env=[(false,eval a (X j).env),(false,eval b (X j).env)]:=by intro _; rfl)
  (hs2:∀ j,starEach [b] (X j).env=[(false,eval b (X j).env)]:=by intro _; rfl):IX K X tg (.Call (.Name "range" p) [a,b] [] pos) (dRng2 da) :=
 let ⟨_,q,u⟩:=ha; ⟨_,fun j=>zGJ (hg j) (by rw[M.mg]; exact hm) (q j) (hs j) (hs2 j),zFm u⟩
theorem ix_zip{elts:List Expr}{x1:Nat}{tp:Pos}(M:Fm K mg k X)(hm:mg "zip"=none)(ha:AX K X [a,b] da)(hg:∀ j,Gl (X j) "zip":=by intro _; rfl)(hs:∀ j,starEach [a,b] (X j).env=[(false,eval a (X j).env),(false,eval b (X j).env)]:=by intro _; rfl)
  (hs2:∀ j,starEach [b] (X j).env=[(false,eval b (X j).env)]:=by intro _; rfl):IX K X (.Tuple elts x1 tp) (.Call (.Name "zip" p) [a,b] [] pos) (dZip da) :=
 let ⟨t,q,u⟩:=ha; ⟨iZipU K t,fun j=>by have:=zH8 (elts:=elts) (x1:=x1) (tp:=tp) (p:=p) (pos:=pos) (hg j) (by rw[M.mg]; exact hm) (q j) (hs j) (hs2 j); rw[M.K j]at this; exact this,zHW u⟩
theorem gx_name(i:Nat)(hi:ip≠some i:=by decide)(hN:∀ j,(X j).N.Nodup:=by intro _; show (List.Nodup _); decide +kernel)(hx':∀ j,(X j).N[i]?=some x:=by intro _; rfl)(hx:∀ j,Loc (X j).env.scope x:=by intro _; first | exact Or.inl rfl | exact Or.inr rfl)
  (hf:∀ j,(X j).fn x=true\/(X j).env.scope.names.lookup x=some .local:=by intro _; first | exact .inl rfl | exact .inr rfl):GX K X ip (.Name x pos) (gdName i):=⟨_,fun j=>zCg (hN j) (hx' j) (hx j) (hf j),zGg hi⟩
theorem gxs_nil:GXs K X ip [] gdNil:=⟨_,fun _=>zEo,zGj⟩
theorem gxs_cons{f:En->T->Option En}{g:En->List T->Option En}(h1:GX K X ip e f)(h2:GXs K X ip es g)(hst:∀ j,(assignEach (e::es) (X j).env).map (·.2)=assign e (X j).env::(assignEach es (X j).env).map (·.2):=by intro _; rfl):GXs K X ip (e::es) (gdCons f g) :=
 let ⟨_,p,s⟩:=h1; let ⟨_,q,u⟩:=h2; ⟨_,fun j=>zBr (p j) (q j) (hst j),zFi s u⟩
theorem gx_tup(n:Nat){kk:Nat}{g:En->List T->Option En}(M:Fm K mg k X)(h:GXs K X ip es g)(hn:∀ j,(assignEach es (X j).env).length=n:=by intro _; rfl)(hst:∀ j,(assignEach es (X j).env).findIdx? (·.1)=none:=by intro _; rfl):GX K X ip (.Tuple es kk pos) (gdTup n g) :=
 let ⟨_,p,s⟩:=h; ⟨_,fun j=>zEs K (M.K j) (M.calm j) (p j) (hn j) (hst j),zHT s⟩
def QX{ι:Type}(K:Fg)(X:ι->Cx)(ifs:List Expr)(f:DT):Prop:=∃ t,(∀ j,PTs (X j) ifs t)/\SimT K t f
def dYes:DT:=fun Γ=>some (true,Γ)
theorem qx_nil:QX K X [] dYes:=⟨_,fun _=>zIV,fun C w Γ σ H b Γ' Q R e k=>by cases e; exact k H R .refl⟩
theorem zMW(h:TX K X c ta):QX K X [c] ta:=let ⟨_,p,s⟩:=h; ⟨_,fun j=>zIP (p j),s⟩
abbrev CI(ι:Type):=ι×Addr×List (Str×Addr)×Shared×Hp×List Addr
abbrev cxF{ι:Type}(X:ι->Cx)(N':List Str)(sc:Scope):CI ι->Cx:=fun q=>cxC (X q.1) N' sc q.2.1 q.2.2.1 q.2.2.2.1 q.2.2.2.2.1 q.2.2.2.2.2
theorem Fm.comp{N':List Str}{sc:Scope}(M:Fm K mg k X):Fm K mg k (cxF X N' sc):=⟨fun j=>M.K j.1,fun j=>M.mg j.1,fun j=>M.calm j.1,fun j=>M.room j.1⟩
theorem Fb.comp{N':List Str}{sc:Scope}(B:Fb P wd base X):Fb P wd base (cxF X N' sc):=⟨fun j=>B.P j.1,fun j=>B.w j.1,fun j=>B.b j.1⟩
theorem ex_comp{N':List Str}{ix:List (Option Nat)}{sc:Scope}{elt tg iter:Expr}{ifs:List Expr}{di:DI}{g:En->T->Option En}{dc:DT}{de:DE}(mu:Option (Nat×Nat))(M:Fm K mg k X)(S:∀ j,CompOk (X j) N' ix sc)(hi:IX K X tg iter di)
  (hg:GX K (cxF X N' sc) (mu.map (·.1)) tg g) (ht:QX K (cxF X N' sc) ifs dc) (he:EX K (cxF X N' sc) elt de)
  (hmu:∀ j i,mu=some (j,i)->ix[j]?=some (some i):=by intro _ _ e; first | (cases e; rfl) | cases e) (hix:∀ (j j' i:Nat),mu.map (·.2)=some i->ix[j]?=some (some i)->ix[j']?=some (some i)->j=j')
  (hs:∀ j x,foldedSetIterable iter (X j).env x=pure x:=by intro _ _; rfl):EX K X (.ListComp elt [⟨tg,iter,ifs,0⟩] sc pos) (dComp mu ix di g dc de) :=
 let ⟨_,p1,s1⟩:=hi; let ⟨_,p2,s2⟩:=hg; let ⟨_,p3,s3⟩:=ht; let ⟨_,p4,s4⟩:=he
 ⟨_,fun j=>zIp (S j) (M.calm j) (p1 j) (fun C cs s H ex=>p2 (j,C,cs,s,H,ex)) (fun C cs s H ex=>p3 (j,C,cs,s,H,ex)) (fun C cs s H ex=>p4 (j,C,cs,s,H,ex)) (hs j),zDU s1 s2 s3 s4 hmu hix⟩
theorem hix0{ix:List (Option Nat)}:∀ (j j' i:Nat),(none:Option (Nat×Nat)).map (·.2)=some i->ix[j]?=some (some i)->ix[j']?=some (some i)->j=j':=fun _ _ _ e=>by cases e
theorem ex_mut{i:Nat}{name:Str}{apos cpos:Pos}{id:String}{r:V->List V->Hp->VK->Prop}{h:En->List T->List S->Option (T×List T)}{y:Str}{yp:Pos}(M:Fm K mg k X)(slot:Slot "list" name id)(hty:typeOf (.builtin id)=pure (.type "method_descriptor"))(hm:∀ j,MtM (X j) id r)(hr:SimMut K r h)
  (ho:∀ j,PE (X j) (.Name y yp) (tVar i)) (ha:AX K X (e::es) da)
  (hbase:∀ j,attributeBase (.Name y yp) name (X j).env (eval (.Name y yp) (X j).env)=eval (.Name y yp) (X j).env:=by intro _; rfl)
  (hfew:∀ j,((backTo cpos (starEach (e::es) (X j).env)).all (fun x=>!x.1) && (backToKw cpos (keywordEach [] (X j).env)).all (fun x=>x.1.isSome) && decide ((e::es).length+([]:List Keyword).length+(if ([]:List Keyword).isEmpty then 0 else 1) < 30))=true:=by intro _; rfl)
  (hline:(apos.endLine == cpos.line)=true:=by rfl) (hs:∀ j,starEach (e::es) (X j).env=(false,eval e (X j).env)::starEach es (X j).env:=by intro _; rfl) (hplain:∀ j,(backTo cpos (starEach es (X j).env)).any (·.1)=false:=by intro _; rfl) :
  EX K X (.Call (.Attribute (.Name y yp) name apos) (e::es) [] cpos) (dMut i h da) :=
 let ⟨t,q,u⟩:=ha; ⟨tBM K "list" r (tVar i) t,fun j=>by have:=zH0 PySem.F.plainAttrs_list slot hty (hm j) (ho j) (q j) (hbase j) (hfew j) hline (hs j) (hplain j); rw[M.K j]at this; exact this,zIc hr u⟩
theorem zHI{apos cpos:Pos}{o:Expr}(M:Fm K mg k X)(ho:EX K X o fa)(ha:AX K X (e::es) da)
  (hbase:∀ j,attributeBase o "index" (X j).env (eval o (X j).env)=eval o (X j).env:=by intro _; rfl)
  (hfew:∀ j,((backTo cpos (starEach (e::es) (X j).env)).all (fun x=>!x.1) && (backToKw cpos (keywordEach [] (X j).env)).all (fun x=>x.1.isSome) && decide ((e::es).length+([]:List Keyword).length+(if ([]:List Keyword).isEmpty then 0 else 1) < 30))=true:=by intro _; rfl)
  (hline:(apos.endLine == cpos.line)=true:=by rfl) (hs:∀ j,starEach (e::es) (X j).env=(false,eval e (X j).env)::starEach es (X j).env:=by intro _; rfl) (hplain:∀ j,(backTo cpos (starEach es (X j).env)).any (·.1)=false:=by intro _; rfl) :
  EX K X (.Call (.Attribute o "index" apos) (e::es) [] cpos) (dIndex fa da) :=
 have hm:∀ j,MtM (X j) "tuple.index" (rTupIndex K):=fun j=>by have:=zEQ (X:=X j); rw[M.K j]at this; exact this
 let ⟨t0,q0,u0⟩:=ho; let ⟨t,q,u⟩:=ha; ⟨tBMS K (rTupIndex K) t0 t,fun j=>by have:=zJp PySem.F.slot_tuple_index PySem.F.type_tuple_index (hm j) (q0 j) (q j) (hbase j) (hfew j) hline (hs j) (hplain j); rw[M.K j]at this; exact this,zGs u0 u⟩
theorem pv'(i:Nat){x:Str}{pos:Pos}(hN:∀ j,(X j).N[i]?=some x:=by intro _; rfl)(hv:∀ j,Vis (X j).env.scope x:=by intro _; first | exact Or.inl rfl | exact Or.inr (Or.inl rfl) | exact Or.inr (Or.inr rfl))(hd:(x == ("__debug__":Str))=false:=by decide)
  (hcd:(x == ("__classdict__":Str))=false:=by decide):∀ j,PE (X j) (.Name x pos) (tVar i):=fun j=>zB4 (hN j) (hv j) hd hcd
variable {st:Stmt}{sts sts':List Stmt}{f g:DS}
theorem bx_nil:BX K X ip [] dNext:=⟨_,fun _=>zEy,zGl⟩
theorem bx_one(h:SX K X ip st f):BX K X ip [st] f:=let ⟨_,p,s⟩:=h; ⟨_,fun j=>zCk (p j),s⟩
theorem bx_cons(h:SX K X ip st f)(h2:BX K X ip sts g):BX K X ip (st::sts) (dSeq f g):=let ⟨_,p,s⟩:=h; let ⟨_,q,u⟩:=h2; ⟨_,fun j=>zDn (p j) (q j),zHr s u⟩
theorem sx_expr(h:EX K X e fa)(hs:∀ j,swapsWith e none pos.line (X j).env=pure false:=by intro _; rfl):SX K X ip (.Expr e pos) (dDrop fa):=let ⟨_,p,s⟩:=h; ⟨_,fun j=>zIO (p j) (hs j),zGt s⟩
theorem sx_ret(h:EX K X e fa):SX K X ip (.Return (some e) pos) (dRet fa):=let ⟨_,p,s⟩:=h; ⟨_,fun j=>zFy (p j),zHg s⟩
theorem sx_if(hc:TX K X c ta)(h1:BX K X ip sts f)(h2:BX K X ip sts' g):SX K X ip (.If c sts sts' pos) (dIf ta f g):=let ⟨_,p,s⟩:=hc; let ⟨_,q,u⟩:=h1; let ⟨_,q',u'⟩:=h2; ⟨_,fun j=>zHy (p j) (q j) (q' j),zIG s u u'⟩
theorem sx_set(i:Nat){pos':Pos}(h:EX K X e fa)(hi:ip≠some i:=by decide)(hN:∀ j,(X j).N.Nodup:=by intro _; show (List.Nodup _); decide +kernel)(hx':∀ j,(X j).N[i]?=some x:=by intro _; rfl)(hx:∀ j,Loc (X j).env.scope x:=by intro _; first | exact Or.inl rfl | exact Or.inr rfl)
  (hs:∀ j,swapsWith e (some (.Name x pos')) pos.line (X j).env=pure false:=by intro _; rfl) (hf:∀ j,(X j).fn x=true\/(X j).env.scope.names.lookup x=some .local:=by intro _; first | exact .inl rfl | exact .inr rfl):SX K X ip (.Assign [.Name x pos'] e pos) (dSet i fa) :=
 let ⟨_,p,s⟩:=h; ⟨_,fun j=>zGu (hN j) (hx' j) (hx j) (p j) (hs j) (hf j),zDc s hi⟩
theorem sx_setC{N':List Str}{ix:List (Option Nat)}{sc:Scope}{elt tg iter:Expr}{ifs:List Expr}{di:DI}{gg:En->T->Option En}{dc:DT}{de:DE}{pos' spos:Pos}(i:Nat)(mu:Option (Nat×Nat))(M:Fm K mg k X)(S:∀ j,CompOk (X j) N' ix sc)(h1:IX K X tg iter di)
  (hg:GX K (cxF X N' sc) (mu.map (·.1)) tg gg) (ht:QX K (cxF X N' sc) ifs dc) (he:EX K (cxF X N' sc) elt de)
  (hix:∀ (j j' i:Nat),mu.map (·.2)=some i->ix[j]?=some (some i)->ix[j']?=some (some i)->j=j') (hi:ip≠some i:=by decide) (hmu:∀ j i,mu=some (j,i)->ix[j]?=some (some i):=by intro _ _ e; first | (cases e; rfl) | cases e)
  (hN:∀ j,(X j).N.Nodup:=by intro _; show (List.Nodup _); decide +kernel) (hx':∀ j,(X j).N[i]?=some x:=by intro _; rfl) (hx:∀ j,Loc (X j).env.scope x:=by intro _; first | exact Or.inl rfl | exact Or.inr rfl)
  (hsw:∀ j,swapsWith (.ListComp elt [⟨tg,iter,ifs,0⟩] sc pos) (some (.Name x pos')) spos.line (X j).env=pure true:=by intro _; rfl)
  (hf:∀ j,(X j).fn x=true\/(X j).env.scope.names.lookup x=some .local:=by intro _; first | exact .inl rfl | exact .inr rfl)
  (hs:∀ j x,foldedSetIterable iter (X j).env x=pure x:=by intro _ _; rfl):SX K X ip (.Assign [.Name x pos'] (.ListComp elt [⟨tg,iter,ifs,0⟩] sc pos) spos) (dSet i (dComp mu ix di gg dc de)) :=
 let ⟨_,p1,s1⟩:=h1; let ⟨_,p2,s2⟩:=hg; let ⟨_,p3,s3⟩:=ht; let ⟨_,p4,s4⟩:=he
 ⟨_,fun j=>zIu (hN j) (hx' j) (hx j) (S j) (M.calm j) (p1 j) (fun C cs s H ex=>p2 (j,C,cs,s,H,ex)) (fun C cs s H ex=>p3 (j,C,cs,s,H,ex)) (fun C cs s H ex=>p4 (j,C,cs,s,H,ex)) (hsw j) (hf j) (hs j),zDc (zDU s1 s2 s3 s4 hmu hix) hi⟩
theorem sx_setIx(i:Nat){y:Str}{yp p2:Pos}(he:EX K X e fa)(ho:∀ j,PE (X j) (.Name y yp) (tVar i))(hb:EX K X b fb)(hs:∀ j,swapsWithSole [.Subscript (.Name y yp) b p2] e pos.line (X j).env=pure false:=by intro _; rfl)(hw:∀ j,swappedStores [.Subscript (.Name y yp) b p2] e (X j).env=pure none:=by intro _; rfl)
  (hA:∀ j v,assign (.Subscript (.Name y yp) b p2) (X j).env v=(do let ov ← holding [v] (eval (.Name y yp) (X j).env); let iv ← holding [v,ov] (eval b (X j).env); standAt p2; holding [v,ov,iv] (setItem ov iv v); release [v,ov,iv] []):=by intro _ _; rfl) (h1:∀ j,(assignEach [.Subscript (.Name y yp) b p2] (X j).env).map (·.2)=[assign (.Subscript (.Name y yp) b p2) (X j).env]:=by intro _; rfl) :
  SX K X ip (.Assign [.Subscript (.Name y yp) b p2] e pos) (dSetIx i fa fb) :=
 let ⟨_,p,s⟩:=he; let ⟨_,q,u⟩:=hb; ⟨_,fun j=>zD7 (p j) (zDQ (ho j) (q j) zBv (hA j)) (hs j) (hw j) (h1 j),zFN s u⟩
theorem zJb{tg:Expr}{gg:En->T->Option En}(he:EX K X e fa)(hg:GX K X ip tg gg)(hs:∀ j,swapsWithSole [tg] e pos.line (X j).env=pure false:=by intro _; rfl)(hw:∀ j,swappedStores [tg] e (X j).env=pure none:=by intro _; rfl)(h1:∀ j,(assignEach [tg] (X j).env).map (·.2)=[assign tg (X j).env]:=by intro _; rfl):SX K X ip (.Assign [tg] e pos) (dUnp gg fa) :=
 let ⟨_,p,s⟩:=he; let ⟨_,q,u⟩:=hg; ⟨_,fun j=>zD7 (p j) (q j) (hs j) (hw j) (h1 j),zHK s u⟩
theorem sx_par(i1 i2:Nat){x1 x2:Str}{px py pt:Pos}{kt k2 pt2}(M:Fm K mg k X)(ha:AX K X [a,b] da)(h12:i1≠i2:=by decide)(hi1:ip≠some i1:=by decide)(hi2:ip≠some i2:=by decide)(hN:∀ j,(X j).N.Nodup:=by intro _; show (List.Nodup _); decide +kernel)
  (e1:∀ j,(X j).N[i1]?=some x1:=by intro _; rfl) (e2:∀ j,(X j).N[i2]?=some x2:=by intro _; rfl) (l1:∀ j,(X j).env.scope.names.lookup x1=some .local:=by intro _; rfl) (l2:∀ j,(X j).env.scope.names.lookup x2=some .local:=by intro _; rfl)
  (hw:∀ j,swappedStores [.Tuple [.Name x1 px,.Name x2 py] kt pt] (.Tuple [a,b] k2 pt2) (X j).env=pure (some [x1,x2]):=by intro _; rfl)
  (hs:∀ j,swapsWithSole [.Tuple [.Name x1 px,.Name x2 py] kt pt] (.Tuple [a,b] k2 pt2) pos.line (X j).env=pure false:=by intro _; rfl) :
  SX K X ip (.Assign [.Tuple [.Name x1 px,.Name x2 py] kt pt] (.Tuple [a,b] k2 pt2) pos) (dPar2 i1 i2 da) :=
 let ⟨_,q,u⟩:=ha; ⟨_,fun j=>zJW (M.calm j) (hN j) (e1 j) (e2 j) h12 (l1 j) (l2 j) (q j) (hw j) (hs j),zHO u hi1 hi2⟩
theorem zIa(i1 i2 i3:Nat){x1 x2 x3:Str}{px py pz pt:Pos}{kt k2 pt2}(M:Fm K mg k X)(ha:AX K X [a,b,c] da)(h12:i1≠i2:=by decide)(h13:i1≠i3:=by decide)(h23:i2≠i3:=by decide)(hi1:ip≠some i1:=by decide)(hi2:ip≠some i2:=by decide)(hi3:ip≠some i3:=by decide)(hN:∀ j,(X j).N.Nodup:=by intro _; show (List.Nodup _); decide +kernel)
  (e1:∀ j,(X j).N[i1]?=some x1:=by intro _; rfl) (e2:∀ j,(X j).N[i2]?=some x2:=by intro _; rfl) (e3:∀ j,(X j).N[i3]?=some x3:=by intro _; rfl) (l1:∀ j,(X j).env.scope.names.lookup x1=some .local:=by intro _; rfl) (l2:∀ j,(X j).env.scope.names.lookup x2=some .local:=by intro _; rfl) (l3:∀ j,(X j).env.scope.names.lookup x3=some .local:=by intro _; rfl)
  (hw:∀ j,swappedStores [.Tuple [.Name x1 px,.Name x2 py,.Name x3 pz] kt pt] (.Tuple [a,b,c] k2 pt2) (X j).env=pure (some [x1,x2,x3]):=by intro _; rfl)
  (hs:∀ j,swapsWithSole [.Tuple [.Name x1 px,.Name x2 py,.Name x3 pz] kt pt] (.Tuple [a,b,c] k2 pt2) pos.line (X j).env=pure false:=by intro _; rfl) :
  SX K X ip (.Assign [.Tuple [.Name x1 px,.Name x2 py,.Name x3 pz] kt pt] (.Tuple [a,b,c] k2 pt2) pos) (dPar3 i1 i2 i3 da) :=
 let ⟨_,q,u⟩:=ha; ⟨_,fun j=>zH3 (M.calm j) (hN j) (e1 j) (e2 j) (e3 j) h12 h13 h23 (l1 j) (l2 j) (l3 j) (q j) (hw j) (hs j),zGP u hi1 hi2 hi3⟩
theorem zGw(nn:Nat)(hp:∀ j,PassesOwn (model (X j).prog (X j).w) (X j).A (X j).env (X j).xe)(hc:TX K X c ta)(hb:BX K X ip sts f):SX K X ip (.While c sts [] pos) (dWhile ta f nn) :=
 let ⟨_,p,s⟩:=hc; let ⟨_,q,u⟩:=hb; ⟨_,fun j=>zHJ (hp j) (p j) (q j),zFK nn s u⟩
theorem sx_for{tg iter:Expr}{di:DI}{gg:En->T->Option En}(M:Fm K mg k X)(hp:∀ j,PassesOwn (model (X j).prog (X j).w) (X j).A (X j).env (X j).xe)(hi:IX K X tg iter di)(hg:GX K X ip tg gg)(hb:BX K X ip sts f)
  (hs:∀ j x,foldedSetIterable iter (X j).env x=pure x:=by intro _ _; rfl):SX K X ip (.For tg iter sts [] pos) (dFor ip di gg f) :=
 let ⟨_,p1,s1⟩:=hi; let ⟨_,p2,s2⟩:=hg; let ⟨_,p3,s3⟩:=hb; ⟨_,fun j=>zJL (hp j) (M.calm j) (p1 j) (p2 j) (p3 j) (hs j),zHQ s1 s2 s3⟩
end
section
variable {P:Program}{wd:World}{base:Heap}{K:Fg}{mg:Str->Option Value}{k:Nat}
abbrev cx1(P:Program)(wd:World)(K:Fg)(mg:Str->Option Value)(base:Heap)(N:List Str)(qual:Str)(sc:Scope)(f:Addr)(cdv:Value)(A:Around)(outer:List Env)(s:Shared)(H:Hp)(E:XK):Unit->Cx:=fun _=>(cxOf CX0 P wd K mg base N qual sc f cdv A outer s H E).nox
theorem fd_of{x:Str}{st:Stmt}{f:Addr}{fd:FuncData}{N ps:List Str}{ip:Option Nat}{g:DS}(F:Fun K x x st f fd)(S:FnScope N ps (defScope st))(hm:mg x=some (.ref f))(hb:Binds K fd ps [])
  (body:∀ (cdv:Value) (A:Around) (outer:List Env) (s:Shared) (H:Hp) (E:XK),Fm K mg k (cx1 P wd K mg base N x (defScope st) f cdv A outer s H E)->Fb P wd base (cx1 P wd K mg base N x (defScope st) f cdv A outer s H E)->BX K (cx1 P wd K mg base N x (defScope st) f cdv A outer s H E) ip (defBody st) g) :
  FD P wd K mg base (k+1) x ip ps.length (fnD ip ps.length N.length g):=by
 refine⟨⟨f,fd,ps,?_,hm,F.kp,hb⟩,zBZ⟩
 refine F.ok S (fun vs H Q E h=>h.1) fun cdv A outer s H vs Q E hr h=>?_
 obtain⟨t,p,u⟩:=body cdv A outer s H E ⟨fun _=>rfl,fun _=>rfl,fun _=>rfl,fun _=>hr⟩ ⟨fun _=>rfl,fun _=>rfl,fun _=>rfl⟩
 exact⟨t,p (),zBh u h⟩
end
section
variable {P:Program}{wd:World}{base:Heap}{K:Fg}{mg:Str->Option Value}{k:Nat}
theorem zKG{x:Str}{st:Stmt}{f:Addr}{fd:FuncData}{N ps:List Str}{ip:Option Nat}{g:DS}(F:Fun K x x st f fd)(S:FnScope N ps (defScope st))
  (body:∀ (cdv:Value) (A:Around) (outer:List Env) (s:Shared) (H:Hp) (E:XK),Fm K mg k (cx1 P wd K mg base N x (defScope st) f cdv A outer s H E)->Fb P wd base (cx1 P wd K mg base N x (defScope st) f cdv A outer s H E)->BX K (cx1 P wd K mg base N x (defScope st) f cdv A outer s H E) ip (defBody st) g) :
  FnOk P wd K mg base CX0 (k+1) f fd ps (spD K ip ps.length (fnD ip ps.length N.length g)):=by
 refine F.ok S (fun vs H Q E h=>h.1) fun cdv A outer s H vs Q E hr h=>?_
 obtain⟨t,p,u⟩:=body cdv A outer s H E ⟨fun _=>rfl,fun _=>rfl,fun _=>rfl,fun _=>hr⟩ ⟨fun _=>rfl,fun _=>rfl,fun _=>rfl⟩
 exact⟨t,p (),zBh u h⟩
theorem fd_zero{x:Str}{st:Stmt}{f:Addr}{fd:FuncData}{ps:List Str}{ip:Option Nat}{n:Nat}(F:Fun K x x st f fd)(hm:mg x=some (.ref f))(hb:Binds K fd ps [])(hn:ps.length=n):FD P wd K mg base k x ip n (fun _=>none):=by
 refine⟨⟨f,fd,ps,⟨fun vs H Q E h=>h.1.trans hn.symm,fun A outer s H args us vs Q E _ _ _ _ h=>?_⟩,hm,F.kp,hb⟩,fun gs r e=>nomatch e⟩
 obtain⟨_,w,gs,r,ys,e,_⟩:=h
 cases e
theorem len0{us:List Value}(h:us.length=0):us=[]:=List.length_eq_zero_iff.mp h
theorem len1{us:List Value}(h:us.length=1):∃ a,us=[a]:=List.length_eq_one_iff.mp h
theorem lenSc{us:List Value}{n:Nat}(h:us.length=n+1):∃ a r,us=a::r/\r.length=n:=by
 cases us with
 | nil=>cases h
 | cons a r=>exact⟨a,r,rfl,Nat.succ.inj h⟩
theorem len2{us:List Value}(h:us.length=2):∃ a b,us=[a,b]:=by
 obtain⟨a,r,rfl,h'⟩:=lenSc h
 obtain⟨b,rfl⟩:=len1 h'
 exact⟨a,b,rfl⟩
theorem len3{us:List Value}(h:us.length=3):∃ a b c,us=[a,b,c]:=by
 obtain⟨a,r,rfl,h'⟩:=lenSc h
 obtain⟨b,c,rfl⟩:=len2 h'
 exact⟨a,b,c,rfl⟩
theorem len4{us:List Value}(h:us.length=4):∃ a b c d,us=[a,b,c,d]:=by
 obtain⟨a,r,rfl,h'⟩:=lenSc h
 obtain⟨b,c,d,rfl⟩:=len3 h'
 exact⟨a,b,c,d,rfl⟩
def intsT(ns:List Int):List T:=ns.map fun i=>.a (.int i)
theorem zIv{F:DF}{H:Hp}{a:Addr}{ns:List Int}(hO:Only H)(hS:SqL K H a (ns.map V.int))(h:F [.k (intsT ns)]=some (.v (.a (.bl true)),[])):spD K none 1 F [.ref a] H (fun v _=>v=.bl true) fun _ _ _=>False:=by
 have hK:KF K H a (ns.map V.int):=KF.of hS fun us e=>by
  rcases hO a with z | ⟨o,xs,z⟩
  ·rw[e]at z; cases z
  ·rw[e]at z; cases z
 refine⟨rfl,⟨[],fun _=>False⟩,_,_,_,h,⟨rfl,fun i g e=>?_,fun i j p ga gb ma mb e=>?_,fun p hp=>(nomatch hp),fun p hp=>(nomatch hp),fun p hp=>hp.elim,fun p hp=>hp.elim,fun b o e _=>e,fun q hq=>(nomatch hq)⟩,rfl,(fun p hp=>nomatch hp),fun v H' _ _ hr=>?_⟩
 ·match i,e with
  | 0,e =>
   cases e
   refine⟨_,rfl,a,ns.map V.int,rfl,?_,hK⟩
   have:intsT ns=(ns.map V.int).map T.a:=by simp[intsT]
   rw[this]
   exact Ims.atoms _
  | i+1,e=>simp at e
 ·match i,e with
  | 0,e=>cases e; cases ma
  | i+1,e=>simp at e
 ·exact (show Im K H' v (.a (.bl true)) from hr).inva
end
end D
namespace L2
open PySem PySem.Spec PyProof.Rows
section
variable {prog:Program}{w:World}{A:Around}{E:Value->Shared->Prop}{s:Shared}
variable {e it l:Addr}{S1:Nat->Heap->Prop}{xs:Array Value}{k:Nat}
theorem zFg{x old:Value}{Q:Value->Shared->Prop}(hne:e≠it)(hle:l≠e)(D:Drawer prog w it l xs S1)(he:IsEnum s.heap e it k old)(st:S1 k s.heap)(hx:xs[k]?=some x)
  (hQ:∀ h',IsEnumOut h' e it ((k:Int)+1) x s.heap.objs.size->S1 (k+1) h'->IsPair h' s.heap.objs.size (.int k s.toks) x ->
   (∀ c o,c≠e->c≠it->s.heap.get? c=some o->h'.get? c=some o)->Q (.ref s.heap.objs.size) { s with heap:=h',toks:=s.toks+1 }) :
  wpAny (model prog w) A (Builtin.«enumerate.__next__» ⟨[.ref e],[]⟩) (fun fin s'=>∃ v,fin=.done (.ret v)/\Q v s') E s:=by
 obtain⟨hp,g,d,tk,os⟩:=s
 have hlt:e < hp.objs.size:=Heap.lt_size he
 show wpAny _ _ (field (.ref e) 2 >>= _) _ _ _
 refine wpAny_bind (wpAny_field he rfl (x:=.ref it) rfl (wpAny_bind (D.item _ k _ x _ _ st hx fun h1 t1 b1=>?_)))
 replace b1:Heap.SameBut it hp h1:=b1
 have e1:IsEnum h1 e it k old:=(b1.2 e hne).trans he
 show wpAny _ _ (field (.ref e) 3 >>= _) _ _ ⟨h1,g,d,tk,os⟩
 refine wpAny_bind (wpAny_field e1 rfl (x:=rawInt k) rfl ?_)
 show wpAny _ _ (field (.ref e) 4 >>= _) _ _ ⟨h1,g,d,tk,os⟩
 refine wpAny_bind (wpAny_field e1 rfl (x:=.none) rfl ?_)
 show wpAny _ _ (mkInt k >>= _) _ _ ⟨h1,g,d,tk,os⟩
 refine wpAny_bind (wpAny_mkInt ?_)
 show wpAny _ _ (setField (.ref e) 3 (rawInt ((k:Int)+1)) >>= _) _ _ ⟨h1,g,d,tk+1,os⟩
 refine wpAny_bind (wpAny_setField_rec e1 (by simp) fun h2 e2 b2=>?_)
 replace b2:Heap.SameBut e h1 h2:=b2
 replace e2:IsEnum h2 e it ((k:Int)+1) old:=e2
 show wpAny _ _ (setField (.ref e) 4 .none >>= _) _ _ ⟨h2,g,d,tk+1,os⟩
 refine wpAny_bind (wpAny_setField_rec e2 (by simp) fun h3 e3 b3=>?_)
 replace b3:Heap.SameBut e h2 h3:=b3
 replace e3:IsEnum h3 e it ((k:Int)+1) old:=e3
 show wpAny _ _ (newTuple [.int k tk,x] >>= _) _ _ ⟨h3,g,d,tk+1,os⟩
 refine wpAny_bind (wpAny_newTuple ?_)
 have hsz:h3.objs.size=hp.objs.size:=by rw[b3.1,b2.1,b1.1]
 obtain⟨h4,rfl⟩:∃ h4,h4=h3.push { cls:=.type "tuple",data:=.seq #[.int k tk,x] }:=⟨_,rfl⟩
 have e4:IsEnum (h3.push { cls:=.type "tuple",data:=.seq #[.int k tk,x] }) e it ((k:Int)+1) old:=Heap.get?_push_of_some _ e3
 have p4:IsPair (h3.push { cls:=.type "tuple",data:=.seq #[.int k tk,x] }) hp.objs.size (.int k tk) x:=by rw[← hsz]; exact Heap.get?_push_size _ rfl
 have k4:∀ c o,c≠e->h1.get? c=some o->(h3.push { cls:=.type "tuple",data:=.seq #[.int k tk,x] }).get? c=some o:=fun c o hc q=>Heap.get?_push_of_some _ (b3.extBut c o hc (b2.extBut c o hc q))
 rw[hsz]
 generalize h3.push { cls:=.type "tuple",data:=.seq #[.int k tk,x] }=h4 at e4 p4 k4
 show wpAny _ _ (Builtin.SmallTypes.ownedTupleIsFree (.ref e) >>= _) _ _ ⟨h4,g,d,tk+1,os⟩
 refine wpAny_bind ?_
 unfold Builtin.SmallTypes.ownedTupleIsFree
 refine wpAny_bind (wpAny_field e4 rfl (x:=.none) rfl (wpAny_pure ?_))
 simp only[if_true]
 refine wpAny_bind (wpAny_rule (wpAny_bind (wpAny_field e4 rfl (x:=old) rfl (wpAny_bind (wpAny_setField_rec e4 (by simp) fun h5 e5 b5=>?_)))))
 replace b5:Heap.SameBut e h4 h5:=b5
 replace e5:IsEnum h5 e it ((k:Int)+1) x:=e5
 show wpAny _ _ (Builtin.SmallTypes.ownedTupleHandOut (.ref e) (.ref hp.objs.size) >>= _) _ _ ⟨h5,g,d,tk+1,os⟩
 refine wpAny_bind ?_
 unfold Builtin.SmallTypes.ownedTupleHandOut
 refine wpAny_bind (wpAny_setField_rec e5 (by simp) fun h6 e6 b6=>?_)
 replace b6:Heap.SameBut e h5 h6:=b6
 replace e6:IsEnumOut h6 e it ((k:Int)+1) x hp.objs.size:=e6
 refine wpAny_setField_rec e6 (by simp) fun h7 e7 b7=>?_
 replace b7:Heap.SameBut e h6 h7:=b7
 replace e7:IsEnumOut h7 e it ((k:Int)+1) x hp.objs.size:=e7
 have up:∀ c o,c≠e->h4.get? c=some o->h7.get? c=some o:=fun c o hc q=>b7.extBut c o hc (b6.extBut c o hc (b5.extBut c o hc q))
 refine wpAny_bind (wpAny_letGo (wpAny_pure ⟨_,rfl,hQ h7 e7 ?_ (up _ _ (Nat.ne_of_gt hlt) p4) fun c o c1 c2 q=>up c o c1 (k4 c o c1 (b1.extBut c o c2 q))⟩))
 exact D.keep _ _ _ t1 (fun o q=>up _ o hne.symm (k4 _ o hne.symm q)) fun o q=>up _ o hle (k4 _ o hle q)
end
def Ite(b:Bool)(K:PySem.W.Frag)(a1:Addr):It :=
 ⟨fun i H=>∃ xs x,Sq b K H a1 xs/\xs[i]?=some x,
  fun i H v H'=>∃ T x,v=.ref T/\H T=none/\H'=upd H T (.tup [.int i,x])/\(∀ xs,Sq b K H a1 xs->xs[i]?=some x),
  fun i H=>∃ xs,Sq b K H a1 xs/\xs.length<=i⟩
structure ETn(b:Bool)(e it a1:Addr)(k:Nat)(h:Heap):Prop where
 z:∃ old,IsEnum h e it k old
 s1:SIt b it a1 k h
theorem zGb{P:Program}{w:World}{K:PySem.W.Frag}{elts:List Expr}{x1:Nat}{tp:Pos}(b:Bool){e it a1:Addr}(hne:e≠it)(hle:a1≠e)(hli:a1≠it) :
  Turn P w K (.Tuple elts x1 tp) (Ite b K a1) [e,it] e (ETn b e it a1) where
 mem:=by simp
 obj:=fun i h st c hc=>by
  simp only[List.mem_cons,List.not_mem_nil,or_false]at hc
  rcases hc with q | q
  ·obtain⟨old,z⟩:=st.z; exact⟨_,q ▸ z,fun v z=>by cases z⟩
  ·obtain⟨o,r,d⟩:=st.s1.live; exact⟨o,q ▸ r,d⟩
 keep:=fun i h h' st k=>⟨(let ⟨old,z⟩:=st.z; ⟨old,k e (by simp) _ z⟩),st.s1.keep fun o q=>k it (by simp) o q⟩
 item:=by
  intro X hP hw hK hc i pins s σ H E I hf st hg
  subst hP hw hK
  obtain⟨xs,x,h1,hx⟩:=hg
  obtain⟨its1,v1,o1,z1⟩:=I.sq h1
  obtain⟨u1,e1,r1⟩:=v1.get hx
  obtain⟨old,hz⟩:=st.z
  have hT:s.TypeIs (.ref e) "enumerate":=⟨_,hz,rfl⟩
  have nH:∀ c∈[e,it],H c=none:=fun c hc=>(hf c hc).1
  unfold pyNext
  refine wpAny_bind (wpAny_attempt (wpAny_callSpecial?_slot (name:=Str.ofString "__next__") hT F.slot_enumerate_next (wpAny_call_entry F.slot_enumerate_next hT F.entry_enumerate_next
   (zFg hne hle (zAa b it a1 its1.toArray hli) hz ⟨st.s1,o1⟩ (by simpa using e1) fun h' ho st' hp hk=>wpAny_pure ?_) (F.args_enumerate_next_1 _))))
  refine⟨_,rfl,?_⟩
  have fT:H s.heap.objs.size=none:=I.hok.fresh (Nat.le_refl _)
  have hk':∀ c o,c∉[e,it]->s.heap.get? c=some o->h'.get? c=some o:=fun c o hc q=>by
   simp only[List.mem_cons,List.not_mem_nil,or_false,not_or]at hc
   exact hk c o hc.1 hc.2 q
  have trk:∀ c u,H c=some u->c∉[e,it]:=fun c u q hc=>by rw[nH c hc]at q; cases q
  have nT:∀ c o,s.heap.get? c=some o->c≠s.heap.objs.size:=fun c o q=>Nat.ne_of_lt (Heap.lt_size q)
  have hok1:HOk X.prog X.w H h':=fun c u q=>(I.hok c u q).stay (fun d v hd r=>hk' d v (by
   rcases hd with rfl | hd
   ·exact trk d u q
   ·exact trk d _ hd) r) (fun _ r=>r) fun _ _ r=>r
  have I1:Inv X pins σ (upd H s.heap.objs.size (.tup [.int i,x])) { s with heap:=h',toks:=s.toks+1 }:=by
   refine I.step (g':=s.gens) (d':=s.drawn) (t':=s.toks+1) (ch:=[e,it]) (fun c hc=>?_) (fun c o _ _ hc q _=>hk' c o hc q) (fun c o _ _ hc q _=>⟨o.slots,hk' c o hc q⟩)
    (fun c o _ q n=>by rw[zAB (nT c o q)]; exact n) (fun c o hc q=>⟨o,hk' c o hc q⟩) (fun c xs q=>by rw[zAB (zAC q fT)]; exact q) (fun c o u q=>by rw[zAB (zAC q fT)]; exact q)
    (fun c ps q=>⟨#[],by rw[zAB (zAC q fT),q]; simp⟩) (fun m hm=>?_) (hok1.adopt fT ⟨by show 2<=sizeLine; decide,[.int i s.toks,u1],.cons ⟨_,rfl⟩ (.cons r1 .nil),_,hp,rfl,⟨0,rfl⟩,rfl⟩) I.bare
   ·obtain⟨_,f1,f2,f3,f4,f5⟩:=hf c hc; exact⟨f3,f1,f4,f5⟩
   ·obtain⟨o,es,ep,ho,r⟩:=hm
    exact⟨o,es,ep,hk' _ o (fun hc=>(hf _ hc).2.1 rfl) ho,r⟩
  refine wpAny_letOwnedTupleGo_enum ho fun h9 hz2 hs2=>?_
  obtain⟨_,f1,f2,f3,f4,f5⟩:=hf e (by simp)
  have nz:upd H s.heap.objs.size (.tup [.int i,x]) e=none:=by rw[zAB (nT e _ hz)]; exact nH e (by simp)
  have I2:Inv X pins σ (upd H s.heap.objs.size (.tup [.int i,x])) { s with heap:=h9,toks:=s.toks+1 }:=by
   have q:=I1.turned (h':=h9) (t':=s.toks+1) (it:=e) (fun c o hc q=>(hs2.2 c hc).trans q) nz f1 f3 f4 f5
   exact q
  refine⟨.ref s.heap.objs.size,_,I2,rfl,⟨s.heap.objs.size,x,rfl,fT,rfl,fun xs' q=>by rw[I.sq_inj q h1]; exact hx⟩,?_,fun c hc=>?_⟩
  ·have up:∀ c o,c≠e->h'.get? c=some o->h9.get? c=some o:=fun c o hc q=>(hs2.2 c hc).trans q
   exact⟨⟨_,by simpa using hz2⟩,st'.1.keep fun o q=>up _ o hne.symm q⟩
  ·obtain⟨o,q,_⟩:∃ o,s.heap.get? c=some o/\True:=by
    simp only[List.mem_cons,List.not_mem_nil,or_false]at hc
    rcases hc with q | q
    ·exact⟨_,q ▸ hz,trivial⟩
    ·obtain⟨o,r,d⟩:=st.s1.live; exact⟨o,q ▸ r,trivial⟩
   rw[zAB (nT c o q)]; exact nH c hc
 done:=by
  intro X hP hw hK hc i pins s σ H E I hf st hg
  subst hP hw hK
  obtain⟨xs,h1,hl⟩:=hg
  obtain⟨its1,v1,o1,z1⟩:=I.sq h1
  have l1:=v1.length
  obtain⟨old,hz⟩:=st.z
  have hT:s.TypeIs (.ref e) "enumerate":=⟨_,hz,rfl⟩
  unfold pyNext
  refine wpAny_bind (wpAny_attempt (wpAny_callSpecial?_slot (name:=Str.ofString "__next__") hT F.slot_enumerate_next (wpAny_call_entry F.slot_enumerate_next hT F.entry_enumerate_next ?_ (F.args_enumerate_next_1 _))))
  show wpAny _ _ (field (.ref e) 2 >>= _) _ _ _
  refine wpAny_bind (wpAny_field hz rfl (x:=.ref it) rfl (wpAny_bind ((zAa b it a1 its1.toArray hli).fini _ i _ _ _ (I.ok.hd hc) ⟨st.s1,o1⟩ (by simp; omega) fun h' x hk hx'=>?_)))
  obtain⟨o,ho,hcl⟩:=hx'
  refine wpAny_bind (wpAny_isInstance (T:="StopIteration") (b:=true) ⟨o,ho,hcl⟩ isSubtype_stop (wpAny_pure ⟨rfl,?_⟩))
  have hk':∀ c o,c∉[it]->s.heap.get? c=some o->h'.get? c=some o:=fun c o hc q=>hk c o (fun z=>hc (by simp[z])) q
  have sub:∀ c∈[it],c∈[e,it]:=fun c hc=>by simp only[List.mem_cons,List.not_mem_nil,or_false]at hc ⊢; exact .inr hc
  have trk:∀ c u,H c=some u->c∉[it]:=fun c u q hc=>by rw[(hf c (sub c hc)).1]at q; cases q
  refine I.step (g':=s.gens) (d':=s.drawn) (t':=s.toks) (ch:=[it]) (fun c hc=>?_) (fun c o _ _ hc q _=>hk' c o hc q) (fun c o _ _ hc q _=>⟨o.slots,hk' c o hc q⟩)
   (fun c o _ q n=>n) (fun c o hc q=>⟨o,hk' c o hc q⟩) (fun c xs q=>q) (fun c o u q=>q) (fun c ps q=>⟨#[],by rw[q]; simp⟩) (fun m hm=>?_) (fun c u q=>(I.hok c u q).stay (fun d v hd r=>hk' d v (by
    rcases hd with rfl | hd
    ·exact trk d u q
    ·exact trk d _ hd) r) (fun _ r=>r) fun _ _ r=>r) I.bare
  ·obtain⟨_,f1,f2,f3,f4,f5⟩:=hf c (sub c hc); exact⟨f3,f1,f4,f5⟩
  ·obtain⟨o,es,ep,ho,r⟩:=hm
   exact⟨o,es,ep,hk' _ o (fun hc=>(hf _ (sub _ hc)).2.1 rfl) ho,r⟩
 self:=fun _ _ _ _ _ st h=>let ⟨_,z⟩:=st.z; wpAny_pyIter_enum z h
section
variable {prog:Program}{w:World}{A:Around}{E:Value->Shared->Prop}{s:Shared}
theorem zEY(l:Addr)(xs:Array Value) :
  Meets (Builtin.«enumerate.__new__» ⟨[.type "enumerate",.ref l],[]⟩) (fun _ R s=>s.heap.IsTuple l xs /\
   R (.ok (.ret (.ref (s.heap.push { cls:=.type "tuple_iterator",data:=.fields #[.ref l,.int 0 0] }).objs.size)))
    { s with heap:=(s.heap.push { cls:=.type "tuple_iterator",data:=.fields #[.ref l,.int 0 0] }).push { cls:=.type "enumerate",data:=.fields #[.none,.bool false,.ref s.heap.objs.size,rawInt 0,.none,.none] } }) :=
 .of_wp fun prog w A R s h=>by
  obtain⟨hp,g,d,tk,os⟩:=s; obtain⟨hl,h⟩:=h
  have hsub:=sub_enumerate
  have T1:Heap.IsTuple (Shared.heap ⟨hp,g,d,tk,os⟩) l xs:=hl
  wp_walk
  refine wpAny_stack_any fun st=>wpAny_pure ?_
  split
  ·rename_i c _ _ _ _ _
   cases (c == Value.type "enumerate")
   ·wp_walk using wpAny_pyIter_tuple T1
    exact⟨_,rfl,h⟩
   ·wp_walk using wpAny_pyIter_tuple T1
    exact⟨_,rfl,h⟩
  ·wp_walk using wpAny_pyIter_tuple T1
   exact⟨_,rfl,h⟩
theorem zFH{l:Addr}{xs:Array Value}{Q:Value->Shared->Prop}(hl:s.heap.IsTuple l xs)
  (h:∀ h',ETn true (s.heap.objs.size+1) s.heap.objs.size l 0 h'->(∀ c o,s.heap.get? c=some o->h'.get? c=some o)->Q (.ref (s.heap.objs.size+1)) { s with heap:=h' }) :
  wpAny (model prog w) A (call (.type "enumerate") [.ref l]) Q E s:=by
 refine callType_new F.called_enumerate (by decide) (F.typeCall_enumerate_1 _) (F.newCall_enumerate_1 _) (fun obj=>F.args_object_init_2 obj _) F.entry_enumerate_new (zEY l xs) ⟨hl,?_⟩
 have z1:(s.heap.push { cls:=.type "tuple_iterator",data:=.fields #[.ref l,.int 0 0] }).objs.size=s.heap.objs.size+1:=Heap.size_push ..
 have g2:=Heap.get?_push_size (s.heap.push { cls:=.type "tuple_iterator",data:=.fields #[.ref l,.int 0 0] }) (o:={ cls:=.type "enumerate",data:=.fields #[.none,.bool false,.ref s.heap.objs.size,rawInt 0,.none,.none] }) rfl
 rw[z1]at g2
 show _/\_
 rw[z1]
 exact⟨⟨_,g2,rfl⟩,h _ ⟨⟨.none,g2⟩,⟨_,Heap.get?_push_of_some _ (Heap.get?_push_size _ rfl),rfl,rfl⟩⟩ fun c o x=>Heap.get?_push_of_some _ (Heap.get?_push_of_some _ x)⟩
end
section
variable {X:Cx}{elts:List Expr}{x1:Nat}{tp:Pos}
def iEnumU(K:PySem.W.Frag)(ta:TA):TI:=fun σ H R=>ta σ H fun vs H1=>∃ (b:Bool) (a1:Addr),vs=[.ref a1]/\(∃ xs,Sq b K H1 a1 xs)/\R (Ite b K a1) H1
theorem zHo{e1:Expr}{ta:TA}{p pos:Pos}(hg:Gl X "enumerate")(hm:X.mg "enumerate"=none)(ha:PA X [e1] ta)(hs:starEach [e1] X.env=[(false,eval e1 X.env)]:=by rfl) :
  PI X (.Tuple elts x1 tp) (.Call (.Name "enumerate" p) [e1] [] pos) (iEnumU X.K ta):=by
 intro pins s σ H R I h
 refine Call_ (zAs I hg hm boot_enumerate (PyProof.Rows.callWith_type1 (thn (ha pos pins s σ H _ I h) fun us s1 ⟨vs,H1,I1,r1,q1⟩=>?_) (by rw[hs]; rfl) (by rfl)))
 obtain⟨b,a1,e,⟨xs,h1⟩,q⟩:=q1
 subst e
 obtain⟨u1,e,r⟩:=r1.one
 subst e
 cases r
 obtain⟨its1,v1,o1,z1⟩:=I1.sq h1
 have lt1:a1 < s1.heap.objs.size:=by cases b with
  | false=>obtain⟨o,e,_⟩:=(show s1.heap.IsList a1 its1.toArray from o1); exact Heap.lt_size e
  | true=>obtain⟨o,e,_⟩:=(show s1.heap.IsTuple a1 its1.toArray from o1); exact Heap.lt_size e
 have fin:∀ h',ETn b (s1.heap.objs.size+1) s1.heap.objs.size a1 0 h'->(∀ c o,s1.heap.get? c=some o->h'.get? c=some o) ->
   wpAny (model X.prog X.w) X.A (pyIter (.ref (s1.heap.objs.size+1))) (PIE X pins σ (.Tuple elts x1 tp) R) X.xe { s1 with heap:=h' }:=fun h' st hk=>by
  obtain⟨old,z⟩:=st.z
  refine wpAny_pyIter_enum z ?_
  refine⟨_,_,_,_,H1,rfl,I1.kept (t':=s1.toks) hk,zGb b (Nat.ne_of_gt (Nat.lt_succ_self _)) (Nat.ne_of_lt (Nat.lt_of_lt_of_le lt1 (Nat.le_add_right _ 1))) (Nat.ne_of_lt lt1),st,fun c hc=>?_,q⟩
  have hc':s1.heap.objs.size<=c:=by
   simp only[List.mem_cons,List.not_mem_nil,or_false]at hc
   rcases hc with e | e <;> (rw[e]) <;> first | exact Nat.le_refl _ | exact Nat.le_add_right _ _
  exact I1.fpOk hc' (I1.hok.fresh hc')
 cases b with
 | false=>exact call_enumerate_list o1 fun h' hz hit _ hk=>fin h' ⟨⟨_,hz⟩,hit⟩ hk
 | true=>exact zFH o1 fin
end
end L2
namespace D
open PySem L2
def enumT(xs:List T):List T:=xs.zipIdx.map fun p=>.t [.a (.int (p.2:Int)),p.1]
def dEnum(fa:DA):DI:=fun Γ=>(fa Γ).bind fun p=>match p.1 with
 | [.v (.t xs)]=>gd xs.length ((enumT xs,[]),p.2)
 | [a]=>(sqlOf p.2 a).bind fun xs=>gd xs.length ((enumT xs,srcS p.2 a),p.2)
 | _=>none
section
variable {K:Fg}
theorem zE0{b:Bool}{a1:Addr}{vs:List V}{xs:List T}{H2:Hp}(h1:Sq b K H2 a1 vs)(i1:Ims K H2 vs xs) :
  (∀ (i:Nat) t,(enumT xs)[i]?=some t->(Ite b K a1).go i H2/\∀ x H3,(Ite b K a1).yld i H2 x H3->(∀ b o,H2 b=some o->H3 b=some o)/\Im K H3 x t)/\(Ite b K a1).stop (enumT xs).length H2:=by
 refine⟨fun i t e=>?_,⟨vs,h1,?_⟩⟩
 ·unfold enumT at e
  rw[List.getElem?_map]at e
  obtain⟨⟨t1,j⟩,e1,e⟩:=zAA e
  subst e
  have e1':xs[i]?=some t1/\j=i:=by
   rw[List.getElem?_zipIdx]at e1
   obtain⟨y,q,e1⟩:=zAA e1
   cases e1
   exact⟨q,by simp⟩
  obtain⟨g1,rfl⟩:=e1'
  obtain⟨v,e3,hv⟩:=i1.get g1
  refine⟨⟨vs,v,h1,e3⟩,fun x H3 y=>?_⟩
  obtain⟨T',x',rfl,hT,rfl,k1⟩:=y
  have q1:=k1 vs h1
  rw[e3]at q1; cases q1
  have ev:Evo [] H2 (upd H2 T' (.tup [.int j,v])):=Evo.new hT
  have hL:LL [] H2:=fun q hq=>nomatch hq
  refine⟨fun b o e=>ev b o e nofun,Im.tup zAF (.cons Im.atom (.one (hv.evo ev hL)))⟩
 ·have l1:=i1.len
  simp[enumT]
  omega
theorem zGX{ta:TA}{fa:DA}(ha:SimA K ta fa):SimI K (iEnumU K ta) (dEnum fa):=by
 intro C w Γ σ H its src Γ' R Rp e k
 obtain⟨⟨as,G1⟩,e1,e⟩:=bind_some e
 dsimp only at e
 have zl:∀ xs:List T,(enumT xs).length<=xs.length:=fun xs=>by simp[enumT]
 split at e
 ·rename_i xs
  obtain⟨hz,e⟩:=zAZ e
  cases e
  refine ha C w Γ σ H _ _ _ Rp e1 fun vs H1 R1 ev1 o1 n1=>?_
  obtain⟨v,rfl,o2⟩:=soks1 o1
  obtain⟨p,vs,rfl,h1,i1⟩:=o2.invt
  refine⟨true,p,rfl,⟨vs,h1.sq⟩,k _ H1 R1 ev1 ⟨Nat.le_trans (zl _) hz,fun L' hs av H2 ev=>?_⟩⟩
  have hL:LL L' H1:=fun q hq=>R1.lst q (hs q hq)
  exact zE0 (b:=true) (zBP ev hL h1).sq (i1.evo ev hL)
 ·obtain⟨xs,e2,e⟩:=bind_some e
  obtain⟨hz,e⟩:=zAZ e
  cases e
  refine ha C w Γ σ H _ _ _ Rp e1 fun vs H1 R1 ev1 o1 n1=>?_
  obtain⟨v,rfl,o2⟩:=soks1 o1
  obtain⟨p,vs,rfl,h1,i1,st1⟩:=zAy R1 o2 e2
  refine⟨false,p,rfl,⟨vs,h1⟩,k _ H1 R1 ev1 ⟨Nat.le_trans (zl _) hz,fun L' hs av H2 ev=>?_⟩⟩
  have hL:LL L' H1:=fun q hq=>R1.lst q (hs q hq)
  exact zE0 (b:=false) (st1 L' hs av H2 ev) (i1.evo ev hL)
 ·cases e
end
section
variable {ι:Type}{K:Fg}{X:ι->Cx}{mg:Str->Option Value}{k:Nat}{a:Expr}{da:DA}{p pos:Pos}
theorem ix_enum{elts:List Expr}{x1:Nat}{tp:Pos}(M:Fm K mg k X)(hm:mg "enumerate"=none)(ha:AX K X [a] da)(hg:∀ j,Gl (X j) "enumerate":=by intro _; rfl)(hs:∀ j,starEach [a] (X j).env=[(false,eval a (X j).env)]:=by intro _; rfl) :
  IX K X (.Tuple elts x1 tp) (.Call (.Name "enumerate" p) [a] [] pos) (dEnum da) :=
 let ⟨t,q,u⟩:=ha; ⟨iEnumU K t,fun j=>by have:=zHo (elts:=elts) (x1:=x1) (tp:=tp) (p:=p) (pos:=pos) (hg j) (by rw[M.mg]; exact hm) (q j) (hs j); rw[M.K j]at this; exact this,zGX u⟩
end
end D
namespace D
open PySem L2
def insI(x:Int):List Int->List Int
 | []=>[x]
 | y::r=>if x<=y then x::y::r else y::insI x r
def sortI:List Int->List Int
 | []=>[]
 | x::r=>insI x (sortI r)
theorem zBV(x:Int):∀ l,(insI x l).Perm (x::l)
 | []=>.refl _
 | y::r=>by
  unfold insI
  split
  ·exact .refl _
  ·exact ((zBV x r).cons y).trans (List.Perm.swap x y r)
theorem zA5:∀ l,(sortI l).Perm l
 | []=>.refl _
 | x::r=>(zBV x _).trans ((zA5 r).cons x)
theorem zBp(x:Int):∀ l:List Int,l.Pairwise (·<=·)->(insI x l).Pairwise (·<=·)
 | [],_=>by simp[insI]
 | y::r,h=>by
  unfold insI
  have h':=List.pairwise_cons.mp h
  split
  ·rename_i hx
   exact List.pairwise_cons.mpr ⟨fun z hz=>by
    rcases List.mem_cons.mp hz with e | e
    ·omega
    ·have:=h'.1 z e; omega,h⟩
  ·rename_i hx
   exact List.pairwise_cons.mpr ⟨fun z hz=>by
    have:=(zBV x r).subset hz
    rcases List.mem_cons.mp this with e | e
    ·omega
    ·exact h'.1 z e,zBp x r h'.2⟩
theorem zBQ:∀ l,(sortI l).Pairwise (·<=·)
 | []=>.nil
 | x::r=>zBp x _ (zBQ r)
theorem zCH:∀ {a b:List Int},a.Perm b->a.Pairwise (·<=·)->b.Pairwise (·<=·)->a=b
 | [],b,p,_,_=>(List.nil_perm.mp p).symm
 | x::r,[],p,_,_=>by have:=p.length_eq; simp at this
 | x::r,y::s,p,ha,hb=>by
  have ha':=List.pairwise_cons.mp ha
  have hb':=List.pairwise_cons.mp hb
  have e:x=y:=by
   have h1:x∈y::s:=p.subset List.mem_cons_self
   have h2:y∈x::r:=p.symm.subset List.mem_cons_self
   rcases List.mem_cons.mp h1 with e | e
   ·exact e
   ·rcases List.mem_cons.mp h2 with f | f
    ·exact f.symm
    ·have:=ha'.1 y f; have:=hb'.1 x e; omega
  subst e
  rw[zCH ((List.perm_cons x).mp p) ha'.2 hb'.2]
def intsOf:List T->Option (List Int)
 | []=>some []
 | .a (.int n)::r=>(intsOf r).map fun ns=>n::ns
 | _::_=>none
end D
namespace D
open PySem L2
def ixL{α:Type}(l:List α)(i:Nat):Option α:=l[i]?
@[simp,simp ↓] theorem zNw{α:Type}{x:α}{r:List α}:ixL (x::r) 0=some x:=rfl
@[simp,simp ↓] theorem zNa{α:Type}{x:α}{r:List α}{n:Nat}:ixL (x::r) (n+1)=ixL r n:=rfl
@[simp,simp ↓] theorem zN4{α:Type}{n:Nat}:ixL ([]:List α) n=none:=rfl
@[simp high,simp ↓ high] theorem gd_0{α:Type}{x:α}:gd 0 x=some x:=rfl
@[simp high,simp ↓ high] theorem gd_1{α:Type}{x:α}:gd 1 x=some x:=rfl
@[simp high,simp ↓ high] theorem gd_2{α:Type}{x:α}:gd 2 x=some x:=rfl
@[simp high,simp ↓ high] theorem gd_3{α:Type}{x:α}:gd 3 x=some x:=rfl
@[simp high,simp ↓ high] theorem gd_4{α:Type}{x:α}:gd 4 x=some x:=rfl
@[simp high,simp ↓ high] theorem gd_5{α:Type}{x:α}:gd 5 x=some x:=rfl
@[simp high,simp ↓ high] theorem gd_6{α:Type}{x:α}:gd 6 x=some x:=rfl
@[simp high,simp ↓ high] theorem gd_7{α:Type}{x:α}:gd 7 x=some x:=rfl
@[simp high,simp ↓ high] theorem gd_8{α:Type}{x:α}:gd 8 x=some x:=rfl
@[simp high,simp ↓ high] theorem gd_9{α:Type}{x:α}:gd 9 x=some x:=rfl
@[simp high,simp ↓ high] theorem zOH{α:Type}{x:α}:gd 10 x=some x:=rfl
@[simp high,simp ↓ high] theorem zNd{α:Type}{x:α}:gd 11 x=some x:=rfl
@[simp high,simp ↓ high] theorem zNu{α:Type}{x:α}:gd 12 x=some x:=rfl
class Kf (α β:Type) where
 k:α->Option β
class Kg (α β:Type) where
 k:α->β
def bnd{α β:Type}(x:Option α) [f:Kf α β]:Option β:=x.bind f.k
@[simp,simp ↓] theorem zOA{α β:Type}{a:α}{f:α->Option β}:bnd (some a) (f:=⟨f⟩)=f a:=rfl
@[simp,simp ↓] theorem zOB{α β:Type}{f:Kf α β}:bnd none (f:=f)=none:=rfl
def omp{α β:Type}(x:Option α) [f:Kg α β]:Option β:=x.map f.k
@[simp,simp ↓] theorem zNo{α β:Type}{a:α}{f:α->β}:omp (some a) (f:=⟨f⟩)=some (f a):=rfl
@[simp,simp ↓] theorem zOF{α β:Type}{f:Kg α β}:omp none (f:=f)=none:=rfl
class Ka (α:Type) where
 v:α
def ifB{α:Type}(b:Bool) [x:Ka α] [y:Ka α]:α:=if b=true then x.v else y.v
@[simp high,simp ↓ high] theorem zNe{α:Type}{x:α}{y:Ka α}:ifB true (x:=⟨x⟩) (y:=y)=x:=rfl
@[simp high,simp ↓ high] theorem zNx{α:Type}{x:Ka α}{y:α}:ifB false (x:=x) (y:=⟨y⟩)=y:=rfl
def ifO{α:Type}(p:Option Nat)(k:Nat)(x y:α):α:=if p=some k then x else y
@[simp high,simp ↓ high] theorem zNz{α:Type}{k:Nat}{x y:α}:ifO none k x y=y:=rfl
def ifN{α:Type}(m n:Nat)(x y:α):α:=if m=n then x else y
def ifM{α:Type}(i:Nat)(l:List Nat)(x y:α):α:=if i∈l then x else y
@[simp high,simp ↓ high] theorem zON{α:Type}{i:Nat}{x y:α}:ifM i [] x y=y:=rfl
def apE{α:Type}(l:List α):List α:=l++[]
@[simp,simp ↓] theorem zN7{α:Type}:apE ([]:List α)=[]:=rfl
@[simp,simp ↓] theorem zNn{α:Type}{x:α}{r:List α}:apE (x::r)=x::apE r:=rfl
@[simp high,simp ↓ high] theorem zMh{α:Type}{x y:α}:ifO (some 0) 0 x y=x:=rfl
@[simp high,simp ↓ high] theorem zMr{α:Type}{x y:α}:ifO (some 0) 1 x y=y:=rfl
@[simp high,simp ↓ high] theorem zNP{α:Type}{x y:α}:ifO (some 0) 2 x y=y:=rfl
@[simp high,simp ↓ high] theorem zL9{α:Type}{x y:α}:ifO (some 0) 3 x y=y:=rfl
@[simp high,simp ↓ high] theorem zNG{α:Type}{x y:α}:ifO (some 0) 4 x y=y:=rfl
@[simp high,simp ↓ high] theorem zMl{α:Type}{x y:α}:ifO (some 0) 5 x y=y:=rfl
@[simp high,simp ↓ high] theorem zMM{α:Type}{x y:α}:ifO (some 0) 6 x y=y:=rfl
@[simp high,simp ↓ high] theorem zN1{α:Type}{x y:α}:ifN 1 1 x y=x:=rfl
@[simp high,simp ↓ high] theorem zN8{α:Type}{x y:α}:ifN 2 2 x y=x:=rfl
@[simp high,simp ↓ high] theorem zN0{α:Type}{x y:α}:ifN 3 3 x y=x:=rfl
@[simp high,simp ↓ high] theorem zN5{α:Type}{x y:α}:ifN 4 4 x y=x:=rfl
@[simp high,simp ↓ high] theorem zOD{α:Type}{x y:α}:ifN 5 5 x y=x:=rfl
@[simp high,simp ↓ high] theorem zNi{α:Type}{x y:α}:ifN 6 6 x y=x:=rfl
@[simp high,simp ↓ high] theorem zOG{α:Type}{x y:α}:ifN 7 7 x y=x:=rfl
@[simp high,simp ↓ high] theorem zNb{α:Type}{x y:α}:ifN 8 8 x y=x:=rfl
section
variable {f g:DS}{fa fb fc fi:DE}{da fr:DA}{ta tb:DT}{Γ:En}{i j k:Nat}{h h':En->S->S->Option S}
@[simp,simp ↓] theorem zIR:dSeq f g Γ=bnd (f Γ) (f:=⟨fun o=>match o with | .nx Γ'=>g Γ' | o=>some o⟩):=rfl
@[simp,simp ↓] theorem zKz:dNext Γ=some (.nx Γ):=rfl
@[simp,simp ↓] theorem zLT:dRet fa Γ=omp (fa Γ) (f:=⟨fun p=>.rt p.1 p.2⟩):=rfl
@[simp,simp ↓] theorem zKw:dRetN Γ=some (.rt (.v (.a .non)) Γ):=rfl
@[simp,simp ↓] theorem zKt:dDrop fa Γ=omp (fa Γ) (f:=⟨fun p=>.nx p.2⟩):=rfl
@[simp,simp ↓] theorem zNk:dIf ta f g Γ=bnd (ta Γ) (f:=⟨fun p=>ifB p.1 (x:=⟨(f p.2)⟩) (y:=⟨(g p.2)⟩)⟩):=rfl
theorem zF8:dIf ta f g Γ=(ta Γ).bind fun p=>if p.1=true then f p.2 else g p.2:=rfl
@[simp,simp ↓] theorem zLf:dSet i fa Γ=bnd (fa Γ) (f:=⟨fun p=>omp (setS i p.1 p.2) (f:=⟨.nx⟩)⟩):=rfl
@[simp,simp ↓] theorem zMo{t:T}:setS i (.v t) Γ=some (Γ.set i (some (.v t))):=rfl
@[simp,simp ↓] theorem zMU{t:List T}:setS i (.l t) Γ=some (Γ.set i (some (.l t))):=rfl
@[simp,simp ↓] theorem zLb:jV i Γ=match ixL Γ i with
 | some (some (.v t))=>some (.v t,Γ)
 | some (some (.l _))=>some (.s i,Γ)
 | some (some (.r _))=>some (.s i,Γ)
 | some (some (.k _))=>some (.s i,Γ)
 | some (some (.d _))=>some (.s i,Γ)
 | some (some (.e _))=>some (.s i,Γ)
 | _=>none:=rfl
@[simp,simp ↓] theorem zNm{v:V}:dC v Γ=some (.v (.a v),Γ):=rfl
@[simp,simp ↓] theorem zMj:dOp h fa fb Γ=bnd (fa Γ) (f:=⟨fun p=>bnd (fb p.2) (f:=⟨fun q=>omp (h q.2 p.1 q.1) (f:=⟨fun s=>(s,q.2)⟩)⟩)⟩):=rfl
@[simp,simp ↓] theorem zM7{h:En->S->Option S}:dUn h fa Γ=bnd (fa Γ) (f:=⟨fun p=>omp (h p.2 p.1) (f:=⟨fun s=>(s,p.2)⟩)⟩):=rfl
@[simp,simp ↓] theorem zM8{h:En->List S->Option S}:dCB h da Γ=bnd (da Γ) (f:=⟨fun p=>omp (h p.2 p.1) (f:=⟨fun s=>(s,p.2)⟩)⟩):=rfl
@[simp,simp ↓] theorem zL4:qQ Γ=some ([],Γ):=rfl
@[simp,simp ↓] theorem zKr:jW fa fr Γ=bnd (fa Γ) (f:=⟨fun p=>bnd (fr p.2) (f:=⟨fun q=>some (p.1::q.1,q.2)⟩)⟩):=rfl
@[simp,simp ↓] theorem zJr{t:T}:S.tree (.v t)=some t:=rfl
@[simp,simp ↓] theorem zKY:trees []=some []:=rfl
@[simp,simp ↓] theorem zKJ{t:T}{r:List S}:trees (.v t::r)=omp (trees r) (f:=⟨fun ts=>t::ts⟩):=rfl
theorem zCW:sizeLine=16777216:=sizeLine_eq
@[simp,simp ↓] theorem zLH:dTup da Γ=bnd (da Γ) (f:=⟨fun p=>bnd (trees p.1) (f:=⟨fun ts=>gd ts.length (.v (.t ts),p.2)⟩)⟩):=rfl
@[simp,simp ↓] theorem zLu:dLst da Γ=bnd (da Γ) (f:=⟨fun p=>bnd (trees p.1) (f:=⟨fun ts=>gd ts.length (.l ts,p.2)⟩)⟩):=rfl
@[simp,simp ↓] theorem zKb:dTest fa Γ=bnd (fa Γ) (f:=⟨fun p=>match p.1 with | .v (.a (.bl b))=>some (b,p.2) | _=>none⟩):=rfl
@[simp,simp ↓] theorem zMH:dAnd ta tb Γ=bnd (ta Γ) (f:=⟨fun p=>ifB p.1 (x:=⟨(tb p.2)⟩) (y:=⟨(some (false,p.2))⟩)⟩):=rfl
@[simp,simp ↓] theorem zN6:dOr ta tb Γ=bnd (ta Γ) (f:=⟨fun p=>ifB p.1 (x:=⟨(some (true,p.2))⟩) (y:=⟨(tb p.2)⟩)⟩):=rfl
@[simp,simp ↓] theorem zLM:dNot ta Γ=bnd (ta Γ) (f:=⟨fun p=>some (!p.1,p.2)⟩):=rfl
@[simp,simp ↓] theorem zLa:dAndV fa fb Γ=bnd (dTest fa Γ) (f:=⟨fun p=>ifB p.1 (x:=⟨(fb p.2)⟩) (y:=⟨(some (.v (.a (.bl false)),p.2))⟩)⟩):=rfl
@[simp,simp ↓] theorem zM3:dOrV fa fb Γ=bnd (dTest fa Γ) (f:=⟨fun p=>ifB p.1 (x:=⟨(some (.v (.a (.bl true)),p.2))⟩) (y:=⟨(fb p.2)⟩)⟩):=rfl
@[simp,simp ↓] theorem zKs:dNotV fa Γ=bnd (dTest fa Γ) (f:=⟨fun p=>some (.v (.a (.bl !p.1)),p.2)⟩):=rfl
@[simp,simp ↓] theorem zMG:dIfE ta fa fb Γ=bnd (ta Γ) (f:=⟨fun p=>ifB p.1 (x:=⟨(fa p.2)⟩) (y:=⟨(fb p.2)⟩)⟩):=rfl
@[simp] theorem zKS:dChain h h' fa fb fc Γ=bnd (fa Γ) (f:=⟨fun p=>bnd (fb p.2) (f:=⟨fun q=>bnd (h q.2 p.1 q.1) (f:=⟨fun z=>match z with
 | .v (.a (.bl k))=>if k=true then bnd (fc q.2) (f:=⟨fun u=>omp (h' u.2 q.1 u.1) (f:=⟨fun s=>(s,u.2)⟩)⟩) else some (.v (.a (.bl false)),q.2)
 | _=>none⟩)⟩)⟩):=rfl
@[simp,simp ↓] theorem zMA{h:En->List T->List S->Option (T×List T)}:dMut i h da Γ=ifB (isLs Γ i) (x:=⟨(bnd (da Γ) (f:=⟨fun p=>match ixL p.2 i with
 | some (some (.l xs))=>bnd (gd xs.length ()) (f:=⟨fun _=>omp (h p.2 xs p.1) (f:=⟨fun q=>(.v q.1,p.2.set i (some (.l q.2)))⟩)⟩)
 | _=>none⟩))⟩) (y:=⟨none⟩):=rfl
@[simp,simp ↓] theorem zLO:isLs Γ i=match ixL Γ i with | some (some (.l _))=>true | _=>false:=rfl
@[simp,simp ↓] theorem zKe:dSetIx i fa fi Γ=bnd (fa Γ) (f:=⟨fun p=>bnd p.1.tree (f:=⟨fun t=>ifB (isLs p.2 i) (x:=⟨(bnd (fi p.2) (f:=⟨fun q=>bnd (iS q.1) (f:=⟨fun k=>match ixL q.2 i with
  | some (some (.l xs))=>omp (ixN xs.length k) (f:=⟨fun j=>.nx (q.2.set i (some (.l (xs.set j t))))⟩)
  | _=>none⟩)⟩))⟩) (y:=⟨none⟩)⟩)⟩):=rfl
theorem zC8:dSetIx i fa fi Γ=(fa Γ).bind fun p=>p.1.tree.bind fun t=>if isLs p.2 i=true then (fi p.2).bind fun q=>(iS q.1).bind fun k=>match q.2[i]? with
  | some (some (.l xs))=>(ixN xs.length k).map fun j=>.nx (q.2.set i (some (.l (xs.set j t))))
  | _=>none
 else none:=(rfl)
@[simp,simp ↓] theorem zOM{n:Int}:iS (.v (.a (.int n)))=some n:=rfl
@[simp,simp ↓] theorem zLL{g:Int->Int->V}{m n:Int}:opII g Γ (.v (.a (.int m))) (.v (.a (.int n)))=some (.v (.a (g m n))):=rfl
@[simp,simp ↓] theorem zLJ{g:Int->Int->V}{xs:List T}{b:S}:opII g Γ (.v (.t xs)) b=none:=rfl
@[simp,simp ↓] theorem zLX{g:Int->Int->V}{xs:List T}{b:S}:opII g Γ (.l xs) b=none:=rfl
@[simp,simp ↓] theorem zLZ{g:Int->Int->V}{n:Nat}{b:S}:opII g Γ (.s n) b=none:=rfl
@[simp,simp ↓] theorem zKP{g:Int->Int->V}{z:Str}{b:S}:opII g Γ (.v (.a (.str z))) b=none:=rfl
@[simp,simp ↓] theorem zL7{m n:Int}:addS Γ (.v (.a (.int m))) (.v (.a (.int n)))=some (.v (.a (.int (m+n)))):=rfl
@[simp] theorem zLI{xs ys:List T}:addS Γ (.v (.t xs)) (.v (.t ys))=gd (xs.length+ys.length) (.v (.t (xs++ys))):=by
 show ((none:Option S).or ((addTup Γ (.v (.t xs)) (.v (.t ys))).or ((none:Option S).or none)))=_
 simp[addTup]
@[simp] theorem zLy{x y:Str}:addS Γ (.v (.a (.str x))) (.v (.a (.str y)))=gd (x.length+y.length) (.v (.a (.str (x++y)))):=by
 show ((none:Option S).or ((none:Option S).or ((none:Option S).or (addStr Γ _ _))))=_
 simp[addStr]
@[simp] theorem zM5{m:Nat}{b:S}:addS Γ (.s m) b=addLst Γ (.s m) b:=by
 show ((none:Option S).or ((none:Option S).or ((addLst Γ (.s m) b).or none)))=_
 simp
@[simp] theorem zMw{xs:List T}{b:S}:addS Γ (.l xs) b=addLst Γ (.l xs) b:=by
 show ((none:Option S).or ((none:Option S).or ((addLst Γ (.l xs) b).or none)))=_
 simp
@[simp,simp ↓] theorem zKU{a b:S}:addLst Γ a b=bnd (lsOf Γ a) (f:=⟨fun xs=>bnd (lsOf Γ b) (f:=⟨fun ys=>gd (xs.length+ys.length) (.l (xs++ys))⟩)⟩):=rfl
@[simp,simp ↓] theorem zLo{m n:Int}:subS Γ (.v (.a (.int m))) (.v (.a (.int n)))=some (.v (.a (.int (m - n)))):=rfl
@[simp] theorem zLY{m n:Int}:mulS Γ (.v (.a (.int m))) (.v (.a (.int n)))=if CMul m n then some (.v (.a (.int (m * n)))) else none:=by
 show ((if CMul m n then some _ else none).or (none:Option S))=_
 simp
@[simp] theorem zLs{m n:Int}:modS Γ (.v (.a (.int m))) (.v (.a (.int n)))=if 0 < n then some (.v (.a (.int (m % n)))) else none:=(rfl)
@[simp] theorem zKg{m n:Int}:fdivS Γ (.v (.a (.int m))) (.v (.a (.int n)))=if CDiv m n then some (.v (.a (.int (m / n)))) else none:=(rfl)
@[simp] theorem zLS{m n:Int}:powS Γ (.v (.a (.int m))) (.v (.a (.int n)))=if CPow m n then some (.v (.a (.int (m ^ n.toNat)))) else none:=(rfl)
@[simp,simp ↓] theorem zNO{m n:Int}:ltS Γ (.v (.a (.int m))) (.v (.a (.int n)))=some (.v (.a (.bl (decide (m < n))))):=rfl
@[simp,simp ↓] theorem zMS{m n:Int}:leS Γ (.v (.a (.int m))) (.v (.a (.int n)))=some (.v (.a (.bl (decide (m<=n))))):=rfl
@[simp,simp ↓] theorem zMe{m n:Int}:gtS Γ (.v (.a (.int m))) (.v (.a (.int n)))=some (.v (.a (.bl (decide (n < m))))):=rfl
@[simp,simp ↓] theorem zMz{m n:Int}:geS Γ (.v (.a (.int m))) (.v (.a (.int n)))=some (.v (.a (.bl (decide (n<=m))))):=rfl
@[simp,simp ↓] theorem zMP{m:Int}:negS Γ (.v (.a (.int m)))=some (.v (.a (.int (-m)))):=rfl
@[simp,simp ↓] theorem zNr{xs:List T}{n:Int}:ixS Γ (.v (.t xs)) (.v (.a (.int n)))=omp (atI xs n) (f:=⟨.v⟩):=rfl
@[simp,simp ↓] theorem zOO{xs:List T}{n:Int}:ixS Γ (.l xs) (.v (.a (.int n)))=omp (atI xs n) (f:=⟨.v⟩):=rfl
@[simp,simp ↓] theorem zNf{m:Nat}{n:Int}:ixS Γ (.s m) (.v (.a (.int n)))=bnd (sqlOf Γ (.s m)) (f:=⟨fun xs=>omp (atI xs n) (f:=⟨.v⟩)⟩):=rfl
@[simp,simp ↓] theorem zLp{m:Nat}:sqlOf Γ (.s m)=match ixL Γ m with
  | some (some (.l xs))=>some xs
  | some (some (.r xs))=>some xs
  | some (some (.k xs))=>some xs
  | _=>none:=rfl
@[simp,simp ↓] theorem zLi{xs:List T}:sqlOf Γ (.l xs)=some xs:=rfl
@[simp,simp ↓] theorem zML{xs:List T}:lsOf Γ (.l xs)=some xs:=rfl
@[simp,simp ↓] theorem zMd{m:Nat}:lsOf Γ (.s m)=match ixL Γ m with
  | some (some (.l xs))=>some xs
  | some (some (.r xs))=>some xs
  | _=>none:=rfl
@[simp,simp ↓] theorem zMB{xs:List T}:lenS Γ [.v (.t xs)]=some (.v (.a (.int xs.length))):=rfl
@[simp,simp ↓] theorem zNC{xs:List T}:lenS Γ [.l xs]=some (.v (.a (.int xs.length))):=rfl
@[simp,simp ↓] theorem zMg{m:Nat}:lenS Γ [.s m]=omp (sqlOf Γ (.s m)) (f:=⟨fun xs=>.v (.a (.int xs.length))⟩):=rfl
@[simp,simp ↓] theorem zLc{xs:List T}:listS Γ [.v (.t xs)]=some (.l xs):=rfl
@[simp,simp ↓] theorem zL5{m:Nat}:listS Γ [.s m]=omp (sqlOf Γ (.s m)) (f:=⟨.l⟩):=rfl
@[simp,simp ↓] theorem zLk{xs:List T}:listS Γ [.l xs]=some (.l xs):=rfl
@[simp,simp ↓] theorem zLF{xs:List T}:tupleS Γ [.v (.t xs)]=some (.v (.t xs)):=rfl
@[simp,simp ↓] theorem zKc{xs:List T}:tupleS Γ [.l xs]=some (.v (.t xs)):=rfl
@[simp,simp ↓] theorem zKo{m:Nat}:tupleS Γ [.s m]=omp (sqlOf Γ (.s m)) (f:=⟨fun xs=>.v (.t xs)⟩):=rfl
@[simp,simp ↓] theorem zKF:dNoPart Γ=some (none,Γ):=rfl
@[simp,simp ↓] theorem zKf:dPart fa Γ=bnd (fa Γ) (f:=⟨fun p=>omp (iS p.1) (f:=⟨fun i=>(some i,p.2)⟩)⟩):=rfl
@[simp,simp ↓] theorem zMC{lo hi:DO}:dSl fa lo hi Γ=bnd (fa Γ) (f:=⟨fun p=>bnd (lo p.2) (f:=⟨fun l=>bnd (hi l.2) (f:=⟨fun h=>omp (slS h.2 l.1 h.1 p.1) (f:=⟨fun s=>(s,h.2)⟩)⟩)⟩)⟩):=rfl
@[simp,simp ↓] theorem zNt{xs:List T}{lo hi:Option Int}:slS Γ lo hi (.v (.t xs))=some (.v (.t (cutT xs lo hi))):=rfl
@[simp,simp ↓] theorem zOC{xs:List T}{lo hi:Option Int}:slS Γ lo hi (.l xs)=some (.l (cutT xs lo hi)):=rfl
@[simp,simp ↓] theorem zOI{m:Nat}{lo hi:Option Int}:slS Γ lo hi (.s m)=omp (sqlOf Γ (.s m)) (f:=⟨fun xs=>.l (cutT xs lo hi)⟩):=rfl
@[simp,simp ↓] theorem zKN{xs:List T}{t:T}:hAppend Γ xs [.v t]=if xs.length < sizeLine then some (.a .non,xs++[t]) else none:=rfl
@[simp,simp ↓] theorem zME{xs:List T}:hPop Γ xs []=omp (xs[xs.length - 1]?) (f:=⟨fun t=>(t,xs.dropLast)⟩):=rfl
@[simp] theorem zLB{xs:List T}{n:Int}:hPopAt Γ xs [.v (.a (.int n))]=if inR 9223372036854775807 n=true then bnd (seqIndex? n xs.length) (f:=⟨fun k=>omp (xs[k]?) (f:=⟨fun t=>(t,xs.eraseIdx k)⟩)⟩) else none:=rfl
@[simp,simp ↓] theorem zM6{n:Int}:intS Γ [.v (.a (.int n))]=some (.v (.a (.int n))):=rfl
@[simp,simp ↓] theorem zMD{b:Bool}:intS Γ [.v (.a (.bl b))]=some (.v (.a (.int (if b then 1 else 0)))):=rfl
@[simp,simp ↓] theorem zKl{m n:Int}:max2S Γ [.v (.a (.int m)),.v (.a (.int n))]=some (.v (.a (.int (if n > m then n else m)))):=rfl
@[simp,simp ↓] theorem zK5{m n:Int}:min2S Γ [.v (.a (.int m)),.v (.a (.int n))]=some (.v (.a (.int (if n < m then n else m)))):=rfl
@[simp] theorem zKQ{fo:DE}:dIndex fo da Γ=bnd (fo Γ) (f:=⟨fun p=>bnd (da p.2) (f:=⟨fun q=>match p.1,q.1 with
 | .v (.t xs),[.v (.a y)]=>bnd (atomsOf xs) (f:=⟨fun vs=>if flatV y=true/\vs.all flatV=true then omp (vs.findIdx? fun z=>eqV z y) (f:=⟨fun j=>(mkI (j:Nat),q.2)⟩) else none⟩)
 | _,_=>none⟩)⟩):=rfl
@[simp,simp ↓] theorem zNQ{n:Int}:mkI n=.v (.a (.int n)):=rfl
@[simp,simp ↓] theorem zMI{b:Bool}:mkB b=.v (.a (.bl b)):=rfl
@[simp] theorem zJ1:dListRng da Γ=bnd (da Γ) (f:=⟨fun p=>omp (rngS p.1) (f:=⟨fun xs=>(.l xs,p.2)⟩)⟩):=rfl
@[simp] theorem zKC:dTupRng da Γ=bnd (da Γ) (f:=⟨fun p=>omp (rngS p.1) (f:=⟨fun xs=>(.v (.t xs),p.2)⟩)⟩):=rfl
theorem zAS(n:Nat)(h:n<=100000):rngS [.v (.a (.int (n:Int)))]=some (rngT 0 n):=by
 unfold rngS
 dsimp only
 rw[zBg (by omega),Int.toNat_natCast,Bool.true_and,Nat.ble_eq_true_of_le (Nat.le_trans h (by decide)),if_pos rfl]
theorem zGG(m n:Nat)(h1:m<=100000)(h:n<=100000):rngS [.v (.a (.int (m:Int))),.v (.a (.int (n:Int)))]=some (rngT m (n - m)):=by
 unfold rngS
 dsimp only
 have e:((n:Int) - (m:Int)).toNat=n - m:=by omega
 rw[zBg (by omega),zBg (by omega),e,Bool.true_and,Bool.true_and,Nat.ble_eq_true_of_le (Nat.le_trans (show n - m<=100000 by omega) (by decide)),if_pos rfl]
@[simp] theorem zK7:dRng1 da Γ=(da Γ).bind fun p=>if p.1.length=1 then (rngS p.1).map fun xs=>((xs,[]),p.2) else none:=by
 unfold dRng1
 congr 1
 funext p
 obtain⟨as,G⟩:=p
 match as with
 | []=>rfl
 | [a] =>
  match a with
  | .v (.a (.int j))=>simp only[rngS,List.length_singleton,if_true]; split <;> rfl
  | .v (.a .non)=>rfl
  | .v (.a (.bl _))=>rfl
  | .v (.a (.str _))=>rfl
  | .v (.a (.byt _))=>rfl
  | .v (.a (.flt _))=>rfl
  | .v (.a (.ref _))=>rfl
  | .v (.a (.ty _))=>rfl
  | .v (.t _)=>rfl
  | .v (.l _)=>rfl
  | .v (.f _)=>rfl
  | .v (.x _ _)=>rfl
  | .l _=>rfl
  | .s _=>rfl
  | .d _=>rfl
 | a::b::r =>
  have:¬ (a::b::r).length=1:=by simp
  rw[if_neg this]
  dsimp only
  split
  ·rename_i h; simp at h
  ·rfl
@[simp,simp ↓] theorem zKk:dSeqI fa Γ=bnd (fa Γ) (f:=⟨fun p=>bnd (seqS p.2 p.1) (f:=⟨fun xs=>gd xs.length ((xs,srcS p.2 p.1),p.2)⟩)⟩):=rfl
@[simp,simp ↓] theorem zNW{xs:List T}:seqS Γ (.v (.t xs))=some xs:=rfl
@[simp,simp ↓] theorem zNZ{xs:List T}:seqS Γ (.l xs)=some xs:=rfl
@[simp,simp ↓] theorem zMZ{m:Nat}:seqS Γ (.s m)=sqlOf Γ (.s m):=rfl
@[simp,simp ↓] theorem zNJ{t:T}:srcS Γ (.v t)=[]:=rfl
@[simp,simp ↓] theorem zNU{t:List T}:srcS Γ (.l t)=[]:=rfl
@[simp,simp ↓] theorem zM4{m:Nat}:srcS Γ (.s m)=match ixL Γ m with | some (some (.l _))=>[m] | _=>[]:=rfl
@[simp,simp ↓] theorem dYes_ap:dYes Γ=some (true,Γ):=rfl
@[simp,simp ↓] theorem zLK:dTru fa Γ=bnd (fa Γ) (f:=⟨fun p=>omp (truS p.2 p.1) (f:=⟨fun b=>(b,p.2)⟩)⟩):=rfl
@[simp,simp ↓] theorem zNF{b:Bool}:truS Γ (.v (.a (.bl b)))=some b:=rfl
@[simp,simp ↓] theorem zNT{n:Int}:truS Γ (.v (.a (.int n)))=some (n != 0):=rfl
@[simp,simp ↓] theorem zMx{xs:List T}:truS Γ (.v (.t xs))=some (!xs.isEmpty):=rfl
@[simp,simp ↓] theorem zMV{m:Nat}:truS Γ (.s m)=omp (sqlOf Γ (.s m)) (f:=⟨fun xs=>!xs.isEmpty⟩):=rfl
@[simp,simp ↓] theorem zMO{xs:List T}:truS Γ (.l xs)=some (!xs.isEmpty):=rfl
@[simp] theorem zKx:dPar2 i j da Γ=bnd (da Γ) (f:=⟨fun p=>match p.1 with
  | [.v a,.v b]=>some (.nx ((p.2.set i (some (.v a))).set j (some (.v b))))
  | _=>none⟩):=rfl
@[simp] theorem zK0:dPar3 i j k da Γ=bnd (da Γ) (f:=⟨fun p=>match p.1 with
  | [.v a,.v b,.v c]=>some (.nx (((p.2.set i (some (.v a))).set j (some (.v b))).set k (some (.v c))))
  | _=>none⟩):=rfl
@[simp,simp ↓] theorem zLv{tg:En->T->Option En}:dUnp tg fa Γ=bnd (fa Γ) (f:=⟨fun p=>bnd p.1.tree (f:=⟨fun t=>omp (tg p.2 t) (f:=⟨.nx⟩)⟩)⟩):=rfl
@[simp,simp ↓] theorem zKZ{t:T}:gdName i Γ t=some (Γ.set i (some (.v t))):=rfl
@[simp,simp ↓] theorem zK6:gdNil Γ []=some Γ:=rfl
@[simp,simp ↓] theorem zKX{p:En->T->Option En}{q:En->List T->Option En}{t:T}{r:List T}:gdCons p q Γ (t::r)=bnd (p Γ t) (f:=⟨fun Γ1=>q Γ1 r⟩):=rfl
@[simp,simp ↓] theorem zL3{q:En->List T->Option En}{ts:List T}:gdTup i q Γ (.t ts)=ifN ts.length i (q Γ ts) none:=rfl
@[simp,simp ↓] theorem zL2{ip:Option Nat}{F:DF}:dCall ip F [] da Γ=bnd (da Γ) (f:=⟨fun p=>ifB (onceS ip p.1) (x:=⟨(bnd (argsG ip p.2 0 (apE p.1)) (f:=⟨fun gs=>omp (F gs) (f:=⟨fun q=>(toS q.1,backS ip p.2 p.1 q.2)⟩)⟩))⟩) (y:=⟨none⟩)⟩):=rfl
@[simp,simp ↓] theorem zKW{ip:Option Nat}:argsG ip Γ k []=some []:=rfl
@[simp high,simp ↓ high] theorem zLC{ip:Option Nat}{s:S}{r:List S}:argsG ip Γ 0 (s::r)=bnd (argG ip Γ 0 s) (f:=⟨fun g=>omp (argsG ip Γ 1 r) (f:=⟨fun gs=>g::gs⟩)⟩):=rfl
@[simp high,simp ↓ high] theorem zK4{ip:Option Nat}{s:S}{r:List S}:argsG ip Γ 1 (s::r)=bnd (argG ip Γ 1 s) (f:=⟨fun g=>omp (argsG ip Γ 2 r) (f:=⟨fun gs=>g::gs⟩)⟩):=rfl
@[simp high,simp ↓ high] theorem zK3{ip:Option Nat}{s:S}{r:List S}:argsG ip Γ 2 (s::r)=bnd (argG ip Γ 2 s) (f:=⟨fun g=>omp (argsG ip Γ 3 r) (f:=⟨fun gs=>g::gs⟩)⟩):=rfl
@[simp high,simp ↓ high] theorem zK8{ip:Option Nat}{s:S}{r:List S}:argsG ip Γ 3 (s::r)=bnd (argG ip Γ 3 s) (f:=⟨fun g=>omp (argsG ip Γ 4 r) (f:=⟨fun gs=>g::gs⟩)⟩):=rfl
@[simp high,simp ↓ high] theorem zLD{ip:Option Nat}{s:S}{r:List S}:argsG ip Γ 4 (s::r)=bnd (argG ip Γ 4 s) (f:=⟨fun g=>omp (argsG ip Γ 5 r) (f:=⟨fun gs=>g::gs⟩)⟩):=rfl
@[simp high,simp ↓ high] theorem zKq{ip:Option Nat}{s:S}{r:List S}:argsG ip Γ 5 (s::r)=bnd (argG ip Γ 5 s) (f:=⟨fun g=>omp (argsG ip Γ 6 r) (f:=⟨fun gs=>g::gs⟩)⟩):=rfl
@[simp high,simp ↓ high] theorem zKv{ip:Option Nat}{s:S}{r:List S}:argsG ip Γ 6 (s::r)=bnd (argG ip Γ 6 s) (f:=⟨fun g=>omp (argsG ip Γ 7 r) (f:=⟨fun gs=>g::gs⟩)⟩):=rfl
@[simp high,simp ↓ high] theorem zK9{ip:Option Nat}{s:S}{r:List S}:argsG ip Γ 7 (s::r)=bnd (argG ip Γ 7 s) (f:=⟨fun g=>omp (argsG ip Γ 8 r) (f:=⟨fun gs=>g::gs⟩)⟩):=rfl
@[simp,simp ↓] theorem zKH{ip:Option Nat}{s:S}{r:List S}:argsG ip Γ k (s::r)=bnd (argG ip Γ k s) (f:=⟨fun g=>omp (argsG ip Γ (k+1) r) (f:=⟨fun gs=>g::gs⟩)⟩):=rfl
@[simp,simp ↓] theorem zMf{ip:Option Nat}{t:T}:argG ip Γ k (.v t)=some (.v t):=rfl
@[simp,simp ↓] theorem zLN{ip:Option Nat}{xs:List T}:argG ip Γ k (.l xs)=some (ifO ip k (.l xs) (.r xs)):=rfl
@[simp,simp ↓] theorem zNL{ip:Option Nat}{m:Nat}:argG ip Γ k (.s m)=match ixL Γ m with
  | some (some (.l xs))=>some (ifO ip k (.l xs) (.r xs))
  | some (some (.r xs))=>ifO ip k none (some (.r xs))
  | some (some (.k xs))=>ifO ip k none (some (.k xs))
  | some (some (.d xs))=>ifO ip k none (some (.e xs))
  | some (some (.e xs))=>ifO ip k none (some (.e xs))
  | _=>none:=rfl
@[simp,simp ↓] theorem zNI{ip:Option Nat}{xs:Dk}:argG ip Γ k (.d xs)=if ip=some k then none else some (.e xs):=rfl
@[simp,simp ↓] theorem zMQ{xs:Dk}:setS i (.d xs) Γ=some (Γ.set i (some (.d xs))):=rfl
@[simp,simp ↓] theorem zMT{xs:Dk}:isSl i (.d xs)=false:=rfl
@[simp,simp ↓] theorem zLW{xs:Dk}:isTmp (.d xs)=false:=rfl
@[simp,simp ↓] theorem zNv{xs:Dk}:toS (.d xs)=.d xs:=rfl
@[simp,simp ↓] theorem zNB{ip:Option Nat}{xs:Dk}:resG ip Γ (.d xs)=some (.d xs):=rfl
@[simp,simp ↓] theorem zLx{ss:List S}:onceS none ss=true:=rfl
@[simp high,simp ↓ high] theorem zKm{r:List S}:onceS (some 0) (.s i::r)=r.all fun s=>!isSl i s:=rfl
@[simp high,simp ↓ high] theorem zOL:(List.all ([]:List S) fun s=>!isSl i s)=true:=rfl
@[simp high,simp ↓ high] theorem zNj{t:T}{r:List S}:(List.all (.v t::r) fun s=>!isSl i s)=r.all fun s=>!isSl i s:=rfl
@[simp high,simp ↓ high] theorem zNg{t:List T}{r:List S}:(List.all (.l t::r) fun s=>!isSl i s)=r.all fun s=>!isSl i s:=rfl
@[simp,simp ↓] theorem zLh{ss:List S}:onceS (some k) ss=match ixL ss k with
  | some (.s i)=>(ss.eraseIdx k).all fun s=>!isSl i s
  | some (.l _)=>(ss.eraseIdx k).all fun s=>!isTmp s
  | _=>false:=rfl
@[simp,simp ↓] theorem zMa{t:T}:isSl i (.v t)=false:=rfl
@[simp,simp ↓] theorem zMq{t:List T}:isSl i (.l t)=false:=rfl
@[simp,simp ↓] theorem zM2:isSl i (.s j)=(j == i):=rfl
@[simp,simp ↓] theorem zLQ{t:T}:isTmp (.v t)=false:=rfl
@[simp,simp ↓] theorem zLw:isTmp (.s j)=false:=rfl
@[simp,simp ↓] theorem zLm{ss:List S}{ys:List T}:backS none Γ ss ys=Γ:=rfl
@[simp high,simp ↓ high] theorem zLP{r:List S}{ys:List T}:backS (some 0) Γ (.s i::r) ys=Γ.set i (some (.l ys)):=rfl
@[simp,simp ↓] theorem zLR{ss:List S}{ys:List T}:backS (some k) Γ ss ys=match ixL ss k with | some (.s i)=>Γ.set i (some (.l ys)) | _=>Γ:=rfl
@[simp,simp ↓] theorem zNp{t:T}:toS (.v t)=.v t:=rfl
@[simp,simp ↓] theorem zNq{t:List T}:toS (.l t)=.l t:=rfl
@[simp,simp ↓] theorem zMF:outl none Γ=[]:=rfl
@[simp,simp ↓] theorem zND:outl (some k) Γ=match ixL Γ k with | some (some (.l xs))=>xs | _=>[]:=rfl
@[simp,simp ↓] theorem zMy{ip:Option Nat}{t:T}:resG ip Γ (.v t)=some (.v t):=rfl
@[simp,simp ↓] theorem zNV{ip:Option Nat}{t:List T}:resG ip Γ (.l t)=some (.l t):=rfl
@[simp,simp ↓] theorem zMc{ip:Option Nat}:resG ip Γ (.s i)=if ip=some i then none else match ixL Γ i with | some (some (.l xs))=>some (.l xs) | some (some (.d xs))=>some (.d xs) | _=>none:=rfl
@[simp,simp ↓] theorem zLq{t:T}:reprS Γ [.v t]=bnd (toD t) (f:=⟨fun d=>if d.showable=true/\d.hasDict=false/\d.depth<=100/\d.shown.length<=sizeLine then some (.v (.a (.str d.shown))) else none⟩):=rfl
@[simp,simp ↓] theorem zNR{xs:List T}:allS Γ [.l xs]=omp (boolsOf xs) (f:=⟨fun bs=>.v (.a (.bl (bs.all id)))⟩):=rfl
end
theorem atI_nat'{α:Type}{xs:List α}{n:Nat}:atI xs (n:Int)=xs[n]?:=by
 unfold atI ixN
 rw[if_pos (Int.natCast_nonneg n)]
 by_cases h:n < xs.length
 ·rw[if_pos (by omega)]; simp
 ·rw[if_neg (by omega),List.getElem?_eq_none (by omega)]; rfl
@[simp] theorem zNl{α:Type}{xs:List α}:atI xs 0=xs[0]?:=atI_nat' (n:=0)
@[simp] theorem zNy{α:Type}{xs:List α}:atI xs 1=xs[1]?:=atI_nat' (n:=1)
@[simp] theorem zNc{α:Type}{xs:List α}:atI xs 2=xs[2]?:=atI_nat' (n:=2)
theorem zJ0{α:Type}{xs:List α}(h:xs≠[]):atI xs (-1)=xs[xs.length - 1]?:=by
 have:0 < xs.length:=List.length_pos_iff.mpr h
 unfold atI ixN
 rw[if_neg (by omega),if_pos (by omega)]
 show xs[(-1+(xs.length:Int)).toNat]?=_
 congr 1
 omega
theorem zA1{n j:Nat}(h:j < n):ixN n (j:Int)=some j:=by
 unfold ixN; rw[if_pos (by omega),if_pos (by omega)]; simp
theorem line_big{n:Nat}(h:n<=100000):n<=sizeLine:=Nat.le_trans h (by decide)
theorem line_lt{n:Nat}(h:n<=100000):n < sizeLine:=Nat.lt_of_le_of_lt h (by decide)
@[simp] abbrev iT(n:Int):T:=.a (.int n)
@[simp] abbrev bT(b:Bool):T:=.a (.bl b)
theorem zD3(ns:List Int){i:Int}(h0:0<=i)(h1:i < ns.length):∃ z,atI (intsT ns) i=some (iT z):=by
 obtain⟨j,rfl⟩:∃ j:Nat,i=j:=⟨i.toNat,by omega⟩
 exact⟨ns[j]'(by omega),by rw[atI_nat',intsT,List.getElem?_map,List.getElem?_eq_getElem (by omega)]; rfl⟩
theorem zBm{c:DT}{b:DS}{n:Nat}{Γ:En}:dWhile c b (n+1) Γ=(c Γ).bind fun p=>if p.1=true then (b p.2).bind fun o=>match o with
   | .nx Γ'=>dWhile c b n Γ'
   | .ct Γ'=>dWhile c b n Γ'
   | .bk Γ'=>some (.nx Γ')
   | .rt s Γ'=>some (.rt s Γ')
  else some (.nx p.2):=(rfl)
theorem forD_nil{tg:En->T->Option En}{b:DS}{Γ:En}:forD tg b [] Γ=some (.nx Γ):=(rfl)
theorem zBR{tg:En->T->Option En}{b:DS}{t:T}{r:List T}{Γ:En}:forD tg b (t::r) Γ=(tg Γ t).bind fun Γ1=>(b Γ1).bind fun o=>match o with
  | .nx Γ'=>forD tg b r Γ'
  | .ct Γ'=>forD tg b r Γ'
  | .bk Γ'=>some (.nx Γ')
  | .rt s Γ'=>some (.rt s Γ'):=(rfl)
theorem zA8{tg:En->T->Option En}{dc:DT}{de:DE}{t:T}{r:List T}{Γ:En}:compD tg dc de (t::r) Γ=(tg Γ t).bind fun Γ1=>(dc Γ1).bind fun p=>if p.1=true then (de p.2).bind fun q=>q.1.tree.bind fun t'=>(compD tg dc de r q.2).map fun z=>(t'::z.1,z.2) else compD tg dc de r p.2:=(rfl)
@[simp,simp ↓] theorem zLt{ix:List (Option Nat)}{di:DI}{tg:En->T->Option En}{dc:DT}{de:DE}{Γ:En}:dComp none ix di tg dc de Γ=bnd (di Γ) (f:=⟨fun p=>omp (compD tg dc de p.1.1 (pick none ix p.2)) (f:=⟨fun z=>(.l z.1,p.2)⟩)⟩):=rfl
@[simp,simp ↓] theorem zKp{i j:Nat}{ix:List (Option Nat)}{di:DI}{tg:En->T->Option En}{dc:DT}{de:DE}{Γ:En}:dComp (some (j,i)) ix di tg dc de Γ=bnd (di Γ) (f:=⟨fun p=>ifM i p.1.2 none (match ixL p.2 i with
  | some (some (.l _))=>omp (compD tg dc de p.1.1 (pick (some i) ix p.2)) (f:=⟨fun z=>(.l z.1,cback (some (j,i)) p.2 z.2)⟩)
  | _=>none)⟩):=rfl
@[simp,simp ↓] theorem zNY{ip:Option Nat}{di:DI}{tg:En->T->Option En}{b:DS}{Γ:En}:dFor ip di tg b Γ=bnd (di Γ) (f:=⟨fun p=>ifB (p.1.2.all fun i=>decide (ip≠some i)) (x:=⟨(forD tg b p.1.1 (frz p.2 p.1.2))⟩) (y:=⟨none⟩)⟩):=rfl
@[simp,simp ↓] theorem zL1{Γ:En}:frz Γ []=Γ:=rfl
@[simp,simp ↓] theorem zKh{Γ:En}{i:Nat}{r:List Nat}:frz Γ (i::r)=frz (frz1 Γ i) r:=rfl
@[simp,simp ↓] theorem zK2{mu:Option Nat}{Γ:En}:pick mu [] Γ=[]:=rfl
@[simp,simp ↓] theorem zMn{mu:Option Nat}{ix:List (Option Nat)}{Γ:En}:pick mu (none::ix) Γ=none::pick mu ix Γ:=rfl
@[simp,simp ↓] theorem zNE{mu:Option Nat}{k:Nat}{ix:List (Option Nat)}{Γ:En}:pick mu (some k::ix) Γ=pick1 mu k (ixL Γ k).join::pick mu ix Γ:=rfl
@[simp,simp ↓] theorem zLU{mu:Option Nat}{k:Nat}{t:T}:pick1 mu k (some (.v t))=some (.v t):=rfl
@[simp,simp ↓] theorem zLj{mu:Option Nat}{k:Nat}{t:List T}:pick1 mu k (some (.r t))=some (.r t):=rfl
@[simp,simp ↓] theorem zLn{mu:Option Nat}{k:Nat}{t:Dk}:pick1 mu k (some (.d t))=some (.e t):=rfl
@[simp,simp ↓] theorem zLr{mu:Option Nat}{k:Nat}{t:Dk}:pick1 mu k (some (.e t))=some (.e t):=rfl
@[simp,simp ↓] theorem zLz{mu:Option Nat}{k:Nat}{t:List T}:pick1 mu k (some (.k t))=some (.k t):=rfl
@[simp,simp ↓] theorem zKy{mu:Option Nat}{k:Nat}{t:List T}:pick1 mu k (some (.l t))=ifO mu k (some (.l t)) (some (.r t)):=rfl
@[simp,simp ↓] theorem zLl{mu:Option Nat}{k:Nat}:pick1 mu k none=none:=rfl
@[simp,simp ↓] theorem zLe{j i:Nat}{Γ Γo:En}:cback (some (j,i)) Γ Γo=match ixL Γo j with | some (some (.l xs))=>Γ.set i (some (.l xs)) | _=>Γ:=rfl
theorem zDy{α:Type}(f g:α->T){de:DE}{R:En}:∀ (is:List α),(∀ i∈is,de (some (.v (f i))::R)=some (.v (g i),some (.v (f i))::R))->∀ o,∃ o',compD (gdName 0) dYes de (is.map f) (o::R)=some (is.map g,o'::R)
 | [],_,o=>⟨o,rfl⟩
 | i::r,h,o=>by
  obtain⟨o',e⟩:=zDy f g r (fun j hj=>h j (List.mem_cons_of_mem _ hj)) (some (.v (f i)))
  refine⟨o',?_⟩
  rw[List.map_cons,zA8]
  simp[h i List.mem_cons_self,e]
theorem zCq{α:Type}(f1 f2 g:α->T){de:DE}{R:En}:∀ (is:List α),(∀ i∈is,de (some (.v (f1 i))::some (.v (f2 i))::R)=some (.v (g i),some (.v (f1 i))::some (.v (f2 i))::R))->∀ o1 o2,∃ o1' o2',compD (gdTup 2 (gdCons (gdName 0) (gdCons (gdName 1) gdNil))) dYes de (is.map fun i=>.t [f1 i,f2 i]) (o1::o2::R)=some (is.map g,o1'::o2'::R)
 | [],_,o1,o2=>⟨o1,o2,rfl⟩
 | i::r,h,o1,o2=>by
  obtain⟨o1',o2',e⟩:=zCq f1 f2 g r (fun j hj=>h j (List.mem_cons_of_mem _ hj)) (some (.v (f1 i))) (some (.v (f2 i)))
  refine⟨o1',o2',?_⟩
  rw[List.map_cons,zA8]
  simp[h i List.mem_cons_self,e]
@[simp] theorem zJ2{n:Nat}{b:Bool}:boolsOf (List.replicate n (.a (.bl b)))=some (List.replicate n b):=by
 induction n with
 | zero=>rfl
 | succ n ih=>rw[List.replicate_succ,List.replicate_succ]; simp only[boolsOf]; rw[ih]; rfl
theorem zDs{n m:Nat}(h:n < m):seqIndex? (n:Int) m=some n:=(zCb (zA1 h)).1
@[simp] theorem zMR{Γ:En}{m n:Int}:eqS Γ (.v (.a (.int m))) (.v (.a (.int n)))=some (.v (.a (.bl (decide (m=n))))):=by
 show ((some (mkB (decide (V.int m=V.int n)))).or _)=_
 simp
@[simp] theorem zL8{Γ:En}{m n:Int}:neS Γ (.v (.a (.int m))) (.v (.a (.int n)))=some (.v (.a (.bl (!decide (m=n))))):=by
 show ((some (mkB (!decide (V.int m=V.int n)))).or _)=_
 simp
@[simp] theorem zMb{Γ:En}{m n:Str}:eqS Γ (.v (.a (.str m))) (.v (.a (.str n)))=some (.v (.a (.bl (decide (m=n))))):=by
 show ((some (mkB (decide (V.str m=V.str n)))).or _)=_
 simp
@[simp] theorem zMi{Γ:En}{m n:Str}:neS Γ (.v (.a (.str m))) (.v (.a (.str n)))=some (.v (.a (.bl (!decide (m=n))))):=by
 show ((some (mkB (!decide (V.str m=V.str n)))).or _)=_
 simp
@[simp] theorem zMN{Γ:En}{m n:Bool}:eqS Γ (.v (.a (.bl m))) (.v (.a (.bl n)))=some (.v (.a (.bl (decide (m=n))))):=by
 show ((some (mkB (decide (V.bl m=V.bl n)))).or _)=_
 simp
@[simp] theorem zMX{Γ:En}{m n:Bool}:neS Γ (.v (.a (.bl m))) (.v (.a (.bl n)))=some (.v (.a (.bl (!decide (m=n))))):=by
 show ((some (mkB (!decide (V.bl m=V.bl n)))).or _)=_
 simp
@[simp] abbrev tvT(t:List Nat):List T:=t.map fun (k:Nat)=>iT (k:Int)
@[simp] abbrev tuT(t:List Nat):T:=.t (tvT t)
structure IsT(n:Nat)(t:List Nat):Prop where
 len:t.length=n
 lt:∀ k∈t,k < n
 nd:t.Nodup
theorem zFz:∀ (n:Nat) (t:List Nat),t.length=n->(∀ k∈t,k < n)->t.Nodup->∀ i,i < n->i∈t:=by
 intro n
 induction n with
 | zero=>intro t _ _ _ i hi; omega
 | succ n ih =>
  intro t hl hlt hnd i hi
  by_cases hn:n∈t
  ·have h1:(t.erase n).length=n:=by rw[List.length_erase_of_mem hn]; omega
   have h2:∀ k∈t.erase n,k < n:=fun k hk=>by
    have:=hlt k (List.mem_of_mem_erase hk)
    have hne:k≠n:=fun e=>by subst e; exact (List.Nodup.not_mem_erase hnd) hk
    omega
   have h3:(t.erase n).Nodup:=hnd.erase n
   by_cases e:i=n
   ·subst e; exact hn
   ·exact List.mem_of_mem_erase (ih (t.erase n) h1 h2 h3 i (by omega))
  ·exfalso
   have h2:∀ k∈t,k < n:=fun k hk=>by
    have:=hlt k hk
    have hne:k≠n:=fun e=>by subst e; exact hn hk
    omega
   cases t with
   | nil=>simp at hl
   | cons x r =>
    have hx:=h2 x List.mem_cons_self
    have hr:=ih r (by simpa using hl) (fun k hk=>h2 k (List.mem_cons_of_mem _ hk)) (List.nodup_cons.mp hnd).2 x hx
    exact (List.nodup_cons.mp hnd).1 hr
theorem IsT.mem{n:Nat}{t:List Nat}(h:IsT n t){i:Nat}(hi:i < n):i∈t:=zFz n t h.len h.lt h.nd i hi
theorem zEB{α β:Type}{f:α->β}{l:List α}(h:∀ x∈l,∀ y∈l,f x=f y->x=y)(nd:l.Nodup):(l.map f).Nodup:=by
 induction l with
 | nil=>exact List.nodup_nil
 | cons a r ih =>
  obtain⟨h1,h2⟩:=List.nodup_cons.mp nd
  refine List.nodup_cons.mpr ⟨fun hm=>?_,ih (fun x hx y hy=>h x (List.mem_cons_of_mem _ hx) y (List.mem_cons_of_mem _ hy)) h2⟩
  obtain⟨y,hy,e⟩:=List.mem_map.mp hm
  have:=h y (List.mem_cons_of_mem _ hy) a List.mem_cons_self e
  subst this
  exact h1 hy
def backL(t:List Nat):List Nat:=(List.range t.length).map fun i=>t.idxOf i
theorem zDA{n:Nat}{t:List Nat}(h:IsT n t):IsT n (backL t):=by
 refine⟨by simp[backL,h.len],fun k hk=>?_,?_⟩
 ·obtain⟨x,hx,rfl⟩:=List.mem_map.mp hk
  have hx':x < n:=by rw[← h.len]; simpa using hx
  have:=List.idxOf_lt_length_iff.mpr (h.mem hx')
  rw[h.len]at this; exact this
 ·unfold backL
  refine zEB ?_ List.nodup_range
  intro x hx y hy e
  have hx':x∈t:=h.mem (by rw[← h.len]; simpa using hx)
  have hy':y∈t:=h.mem (by rw[← h.len]; simpa using hy)
  have e1:=List.getElem_idxOf (List.idxOf_lt_length_iff.mpr hx')
  have e2:=List.getElem_idxOf (List.idxOf_lt_length_iff.mpr hy')
  rw[← e1,← e2]
  congr 1
theorem zET{n:Nat}{t:List Nat}(h:t.Perm (List.range n)):IsT n t :=
 ⟨by rw[h.length_eq]; simp,fun k hk=>by simpa using h.mem_iff.mp hk,h.nodup_iff.mpr List.nodup_range⟩
theorem zCx(n:Nat):IsT n (List.range n):=⟨by simp,fun k hk=>by simpa using hk,List.nodup_range⟩
theorem zBd(n:Nat):rngT 0 n=tvT (List.range n):=by simp[rngT]
theorem zFl{fs ls:List Nat}{k z:Nat}(hk:ls[k]?=some z):((fs++[z])++ls.eraseIdx k).Perm (fs++ls):=by
 rw[List.append_assoc]
 refine List.Perm.append_left fs ?_
 obtain⟨hk1,hk2⟩:=List.getElem?_eq_some_iff.mp hk
 rw[List.eraseIdx_eq_take_drop_succ]
 have e:ls=ls.take k++z::ls.drop (k+1):=by
  rw[← hk2,List.getElem_cons_drop,List.take_append_drop]
 conv=>rhs; rw[e]
 show (z::(ls.take k++ls.drop (k+1))).Perm _
 exact List.perm_middle.symm
theorem zGn{α β:Type}(f:α->β)(t:List α)(k:Nat):(t.map f).eraseIdx k=(t.eraseIdx k).map f:=by
 rw[List.eraseIdx_eq_take_drop_succ,List.eraseIdx_eq_take_drop_succ]; simp
def fuelW:Nat:=4000
theorem zHn:fuelW=4000:=rfl
theorem zDp:∀ t:List Nat,atomsOf (tvT t)=some (t.map fun (k:Nat)=>V.int (k:Int))
 | []=>rfl
 | k::r=>by simp only[tvT,List.map_cons,atomsOf]; rw[show atomsOf (r.map fun (k:Nat)=>iT (k:Int))=_ from zDp r]; rfl
theorem zIC(t:List Nat):(t.map fun (k:Nat)=>V.int (k:Int)).all flatV=true:=by simp[flatV]
theorem zG8{t:List Nat}{i:Nat}(h:i∈t):((t.map fun (k:Nat)=>V.int (k:Int)).findIdx? fun z=>eqV z (V.int (i:Int)))=some (t.idxOf i):=by
 have hlt:t.idxOf i < t.length:=List.idxOf_lt_length_iff.mpr h
 refine List.findIdx?_eq_some_iff_getElem.mpr ⟨by simpa using hlt,?_,fun j hj=>?_⟩
 ·simp[eqV]
 ·have hne:t[j]'(by omega)≠i:=fun e=>by
   have:=List.not_of_lt_findIdx (p:=(· == i)) (xs:=t) (show j < t.findIdx (· == i) from hj)
   simp[e]at this
  simp only[List.getElem_map,eqV]
  simpa using fun e=>hne (by exact_mod_cast e)
theorem zG5(xs:List T)(n:Nat):cutT xs none (some (n:Int))=xs.take n:=by
 unfold cutT
 rw[HT.sIx_none,HT.sIx_nat,List.drop_zero,Nat.sub_zero]
 by_cases h:n<=xs.length
 ·rw[Nat.min_eq_left h]
 ·rw[Nat.min_eq_right (by omega),List.take_of_length_le (Nat.le_refl _),List.take_of_length_le (by omega)]
theorem cut_drop(xs:List T)(n:Nat):cutT xs (some (n:Int)) none=xs.drop n:=by
 unfold cutT
 rw[HT.sIx_none,HT.sIx_nat]
 by_cases h:n<=xs.length
 ·rw[Nat.min_eq_left h,List.take_of_length_le (by simp)]
 ·rw[Nat.min_eq_right (by omega),Nat.sub_self,List.take_zero,List.drop_eq_nil_of_le (by omega)]
abbrev Stp:=Nat×List Nat×List Nat
@[simp] abbrev stT(s:Stp):T:=.t [iT (s.1:Int),tuT s.2.1,tuT s.2.2]
def StOk(n qs:Nat)(st:List Stp):Prop:=∀ s∈st,s.1 < qs/\IsT n s.2.1/\IsT n s.2.2
@[simp] abbrev prT(p:T×T):T:=.t [p.1,p.2]
end D
namespace L2
open PySem PySem.Spec PyProof.Rows
section
variable {X:Cx}{pins:List (Addr×Obj)}{s:Shared}{σ:St}{H:Hp}{p:Addr}{vs:List V}
def minI:List Int->Int
 | []=>0
 | x::r=>r.foldl (fun a b=>if b < a then b else a) x
def maxI:List Int->Int
 | []=>0
 | x::r=>r.foldl (fun a b=>if a < b then b else a) x
end
end L2
namespace D
open PySem L2
def sumS:En->List S->Option S:=fun Γ as=>match as with
 | [a]=>(seqS Γ a).bind fun xs=>(intsOf xs).map fun ns=>.v (.a (.int ns.sum))
 | _=>none
def min1S:En->List S->Option S:=fun Γ as=>match as with
 | [a]=>(seqS Γ a).bind fun xs=>(intsOf xs).bind fun ns=>if 0 < ns.length then some (.v (.a (.int (minI ns)))) else none
 | _=>none
def max1S:En->List S->Option S:=fun Γ as=>match as with
 | [a]=>(seqS Γ a).bind fun xs=>(intsOf xs).bind fun ns=>if 0 < ns.length then some (.v (.a (.int (maxI ns)))) else none
 | _=>none
def anyS:En->List S->Option S:=fun Γ as=>match as with
 | [a]=>(sqlOf Γ a).bind fun xs=>(boolsOf xs).map fun bs=>.v (.a (.bl (bs.any id)))
 | _=>none
section
variable {Γ:En}
@[simp] theorem zL0{a:S}:sumS Γ [a]=bnd (seqS Γ a) (f:=⟨fun xs=>omp (intsOf xs) (f:=⟨fun ns=>.v (.a (.int ns.sum))⟩)⟩):=rfl
@[simp,simp ↓] theorem zLA{a:S}:min1S Γ [a]=bnd (seqS Γ a) (f:=⟨fun xs=>bnd (intsOf xs) (f:=⟨fun ns=>if 0 < ns.length then some (.v (.a (.int (minI ns)))) else none⟩)⟩):=rfl
@[simp,simp ↓] theorem zKi{a:S}:max1S Γ [a]=bnd (seqS Γ a) (f:=⟨fun xs=>bnd (intsOf xs) (f:=⟨fun ns=>if 0 < ns.length then some (.v (.a (.int (maxI ns)))) else none⟩)⟩):=rfl
@[simp,simp ↓] theorem zL6{a:S}:anyS Γ [a]=bnd (sqlOf Γ a) (f:=⟨fun xs=>omp (boolsOf xs) (f:=⟨fun bs=>.v (.a (.bl (bs.any id)))⟩)⟩):=rfl
end
def dK(t:T):DE:=fun Γ=>some (.v t,Γ)
def KV(K:Fg)(mg:Str->Option Value)(x:Str)(t:T):Prop:=∃ v u,mg x=some u/\RelV v u/\∀ H:Hp,Im K H v t
section
variable {ι:Type}{K:Fg}{X:ι->Cx}{mg:Str->Option Value}{k:Nat}{pos:Pos}{x:Str}{t:T}
theorem zKL{v:V}(h:∀ H:Hp,Im K H v t):SimE K (tC v) (dK t):=by
 intro C w Γ σ H s Γ' Q R e k
 cases e
 exact k v H R .refl (h H) trivial
theorem ex_k(t:T)(M:Fm K mg k X)(c:KV K mg x t)(hg:∀ j,Gl (X j) x:=by intro _; rfl)(hd:(x == ("__debug__":Str))=false:=by decide):EX K X (.Name x pos) (dK t) :=
 let ⟨v,u,h1,h2,h3⟩:=c
 ⟨tC v,fun j=>zEv (hg j) (by rw[M.mg]; exact h1) h2 hd,zKL h3⟩
end
section
variable {Γ:En}
@[simp,simp ↓] theorem zOJ{t:T}:dK t Γ=some (.v t,Γ):=rfl
end
def dSwap(i:Nat)(fe f1 f2:DE):DS:=fun Γ=>(fe Γ).bind fun p=>match p.1 with
 | .v (.t [a,b])=>if isLs p.2 i=true then (f1 p.2).bind fun q=>(iS q.1).bind fun k=>match q.2[i]? with
  | some (some (.l xs))=>(ixN xs.length k).bind fun j=>(fun (Γ2:En)=>(f2 Γ2).bind fun q2=>(iS q2.1).bind fun k2=>match q2.2[i]? with
   | some (some (.l ys))=>(ixN ys.length k2).map fun j2=>.nx (q2.2.set i (some (.l (ys.set j2 b))))
   | _=>none) (q.2.set i (some (.l (xs.set j a))))
  | _=>none
  else none
 | _=>none
theorem zFn{K:Fg}{ip:Option Nat}{i:Nat}{te t1 t2:TE}{fe f1 f2:DE}(he:SimE K te fe)(h1:SimE K t1 f1)(h2:SimE K t2 f2):SimS K ip (tAsg te (gTup K 2 (gCons (gSub (tVar i) t1 rSetL) (gCons (gSub (tVar i) t2 rSetL) gNil)))) (dSwap i fe f1 f2):=by
 intro C w Γ σ H D o hp R e k
 obtain⟨⟨s,G1⟩,e1,e⟩:=bind_some e
 dsimp only at e
 split at e
 rotate_left
 ·cases e
 rename_i a b hs
 split at e
 rotate_left
 ·cases e
 rename_i hl
 obtain⟨⟨s2,G2⟩,e3,e⟩:=bind_some e
 obtain⟨n,e4,e⟩:=bind_some e
 dsimp only at e e4
 split at e
 rotate_left
 ·cases e
 rename_i xs hx
 obtain⟨j,e5,e⟩:=bind_some e
 obtain⟨⟨s4,G4⟩,e6,e⟩:=bind_some e
 obtain⟨n2,e7,e⟩:=bind_some e
 dsimp only at e e7
 split at e
 rotate_left
 ·cases e
 rename_i ys hy
 obtain⟨j2,e8,e⟩:=zAA e
 subst e
 refine he C w Γ σ H _ G1 _ R e1 fun v H1 R1 ev1 o1 n1=>?_
 obtain⟨p0,us,rfl,ht,hi⟩:=SOk.invt o1
 obtain⟨va,r1,rfl,ia,hi⟩:=hi.inv
 obtain⟨vb,r2,rfl,ib,hi⟩:=hi.inv
 obtain rfl:=hi.inv0
 refine⟨p0,[va,vb],rfl,ht.sq,rfl,va,[vb],rfl,?_⟩
 obtain⟨p,vs,s1,hp1⟩:=zCS R1 hl
 refine⟨.ref p,s1,?_⟩
 refine h1 C w G1 σ H1 s2 G2 _ R1 e3 fun v2 H2 R2 ev2 o2 nn2=>?_
 obtain⟨v3,s3,q,ws,rfl,m3,h3,i3⟩:=R2.val i _ hx
 rw[s1]at s3; cases s3
 have R3:=R2.put hx s1 (i3.set j (ia.evo ev2 R1.lst))
 refine⟨p,ws,n,j,rfl,zAe o2 e4,h3,by rw[i3.len]; exact e5,?_⟩
 refine⟨vb,[],rfl,.ref p,s1,?_⟩
 refine h2 C w _ σ _ s4 G4 _ R3.1 e6 fun v4 H4 R4 ev4 o4 n4=>?_
 obtain⟨v5,s5,q5,ws5,rfl,m5,h5,i5⟩:=R4.val i _ hy
 rw[s1]at s5; cases s5
 have ib':=((ib.evo ev2 R1.lst).evo R3.2 R2.lst).evo ev4 R3.1.lst
 exact⟨p,ws5,n2,j2,rfl,zAe o4 e7,h5,by rw[i5.len]; exact e8,rfl,k w σ _ (R4.put hy s1 (i5.set j2 ib')).1⟩
section
variable {ι:Type}{K:Fg}{X:ι->Cx}{mg:Str->Option Value}{k:Nat}{ip:Option Nat}{e b c:Expr}{pos:Pos}{fa fb fc:DE}
theorem sx_swap(i:Nat){y:Str}{yp yp2 p2 p3 pt:Pos}{kk:Nat}(M:Fm K mg k X)(he:EX K X e fa)(ho:∀ j,PE (X j) (.Name y yp) (tVar i))(ho2:∀ j,PE (X j) (.Name y yp2) (tVar i))(hb:EX K X b fb)(hc:EX K X c fc)
  (hs:∀ j,swapsWithSole [.Tuple [.Subscript (.Name y yp) b p2,.Subscript (.Name y yp2) c p3] kk pt] e pos.line (X j).env=pure false:=by intro _; rfl) (hw:∀ j,swappedStores [.Tuple [.Subscript (.Name y yp) b p2,.Subscript (.Name y yp2) c p3] kk pt] e (X j).env=pure none:=by intro _; rfl)
  (hA:∀ j v,assign (.Subscript (.Name y yp) b p2) (X j).env v=(do let ov ← holding [v] (eval (.Name y yp) (X j).env); let iv ← holding [v,ov] (eval b (X j).env); standAt p2; holding [v,ov,iv] (setItem ov iv v); release [v,ov,iv] []):=by intro _ _; rfl)
  (hA2:∀ j v,assign (.Subscript (.Name y yp2) c p3) (X j).env v=(do let ov ← holding [v] (eval (.Name y yp2) (X j).env); let iv ← holding [v,ov] (eval c (X j).env); standAt p3; holding [v,ov,iv] (setItem ov iv v); release [v,ov,iv] []):=by intro _ _; rfl)
  (h1:∀ j,(assignEach [.Tuple [.Subscript (.Name y yp) b p2,.Subscript (.Name y yp2) c p3] kk pt] (X j).env).map (·.2)=[assign (.Tuple [.Subscript (.Name y yp) b p2,.Subscript (.Name y yp2) c p3] kk pt) (X j).env]:=by intro _; rfl)
  (hst:∀ j,(assignEach [.Subscript (.Name y yp) b p2,.Subscript (.Name y yp2) c p3] (X j).env).map (·.2)=assign (.Subscript (.Name y yp) b p2) (X j).env::(assignEach [.Subscript (.Name y yp2) c p3] (X j).env).map (·.2):=by intro _; rfl)
  (hst2:∀ j,(assignEach [.Subscript (.Name y yp2) c p3] (X j).env).map (·.2)=assign (.Subscript (.Name y yp2) c p3) (X j).env::(assignEach [] (X j).env).map (·.2):=by intro _; rfl)
  (hn:∀ j,(assignEach [.Subscript (.Name y yp) b p2,.Subscript (.Name y yp2) c p3] (X j).env).length=2:=by intro _; rfl) (hf:∀ j,(assignEach [.Subscript (.Name y yp) b p2,.Subscript (.Name y yp2) c p3] (X j).env).findIdx? (·.1)=none:=by intro _; rfl) :
  SX K X ip (.Assign [.Tuple [.Subscript (.Name y yp) b p2,.Subscript (.Name y yp2) c p3] kk pt] e pos) (dSwap i fa fb fc) :=
 let ⟨_,p,s⟩:=he; let ⟨_,q,u⟩:=hb; let ⟨_,q2,u2⟩:=hc
 ⟨_,fun j=>zD7 (p j) (zEs K (M.K j) (M.calm j) (zBr (zDQ (ho j) (q j) zBv (hA j)) (zBr (zDQ (ho2 j) (q2 j) zBv (hA2 j)) zEo (hst2 j)) (hst j)) (hn j) (hf j)) (hs j) (hw j) (h1 j),zFn s u u2⟩
@[simp] theorem zLG{i:Nat}{fe f1 f2:DE}{Γ:En}:dSwap i fe f1 f2 Γ=(fe Γ).bind fun p=>match p.1 with
 | .v (.t [a,b])=>if isLs p.2 i=true then (f1 p.2).bind fun q=>(iS q.1).bind fun k=>match q.2[i]? with
  | some (some (.l xs))=>(ixN xs.length k).bind fun j=>(fun (Γ2:En)=>(f2 Γ2).bind fun q2=>(iS q2.1).bind fun k2=>match q2.2[i]? with
   | some (some (.l ys))=>(ixN ys.length k2).map fun j2=>.nx (q2.2.set i (some (.l (ys.set j2 b))))
   | _=>none) (q.2.set i (some (.l (xs.set j a))))
  | _=>none
  else none
 | _=>none:=(rfl)
end
end D
namespace D
open PySem L2
open PySem.SeqAt
def dParLL(i j:Nat):DS:=fun Γ=>some (.nx ((Γ.set i (some (.l []))).set j (some (.l []))))
section
variable {ι:Type}{K:Fg}{mg:Str->Option Value}{k:Nat}{X:ι->Cx}{ip:Option Nat}{pos:Pos}
@[simp,simp ↓] theorem zKT{i j:Nat}{Γ:En}:dParLL i j Γ=some (.nx ((Γ.set i (some (.l []))).set j (some (.l [])))):=rfl
end
end D
namespace D
open PySem L2
end D
namespace L2
open PySem PySem.W PyProof.Rows
section
variable {n:Nat}(h0:0 < n)
include h0
end
end L2
namespace D
open PySem L2 PyProof.Rows
def asTI:T->Option (List Int)
 | .t xs=>intsOf xs
 | _=>none
open PySem L2
end D
namespace D
open PySem L2
def ltTS:En->S->S->Option S:=fun _ a b=>match a,b with
 | .v s,.v t=>(asTI s).bind fun ns=>(asTI t).map fun ms=>mkB (HT.lexLt ns ms)
 | _,_=>none
section
variable {ι:Type}{K:Fg}{X:ι->Cx}{mg:Str->Option Value}{k:Nat}{Γ:En}
@[simp,simp ↓] theorem zLg{s t:T}:ltTS Γ (.v s) (.v t)=bnd (asTI s) (f:=⟨fun ns=>omp (asTI t) (f:=⟨fun ms=>mkB (HT.lexLt ns ms)⟩)⟩):=rfl
end
end D
namespace D
open PySem L2
example (P:Program) (w:World):(mixKind P w).hash (.inl 1)=1/\(mixKind P w).hash (.inl 2)=2:=⟨by rfl,by rfl⟩
end D
namespace D
open PySem L2
end D
namespace D
open PySem L2
@[simp high,simp ↓ high] theorem zMJ{α:Type}{x y:α}:ifO (some 1) 1 x y=x:=rfl
@[simp high,simp ↓ high] theorem zM1{α:Type}{x y:α}:ifO (some 2) 2 x y=x:=rfl
@[simp high,simp ↓ high] theorem zMt{α:Type}{x y:α}:ifO (some 3) 3 x y=x:=rfl
@[simp high,simp ↓ high] theorem zMs{α:Type}{x y:α}:ifO (some 4) 4 x y=x:=rfl
@[simp high,simp ↓ high] theorem zMY{α:Type}{x y:α}:ifO (some 5) 5 x y=x:=rfl
@[simp high,simp ↓ high] theorem zMp{α:Type}{x y:α}:ifO (some 6) 6 x y=x:=rfl
@[simp high,simp ↓ high] theorem zNM{α:Type}{x y:α}:ifO (some 7) 7 x y=x:=rfl
@[simp high,simp ↓ high] theorem zMu{α:Type}{x y:α}:ifO (some 8) 8 x y=x:=rfl
@[simp high,simp ↓ high] theorem zM0{α:Type}{x y:α}:ifO (some 9) 9 x y=x:=rfl
@[simp high,simp ↓ high] theorem zKj{α:Type}{x y:α}:ifO (some 10) 10 x y=x:=rfl
abbrev Tb:=List (Str×Nat×DF)
def dFn(n:Str):DE:=fun Γ=>some (.v (.f n),Γ)
def NK(K:Fg)(mg:Str->Option Value)(n:Str):Prop:=∃ f,PySem.W.nsIn K mainGlobals n=some (some (.ref f))/\mg n=some (.ref f)
theorem zJn{K:Fg}{n:Str}{f:Addr}(h:PySem.W.nsIn K mainGlobals n=some (some (.ref f))):SimE K (tC (.ref f)) (dFn n):=by
 intro C w Γ σ H s Γ' Q R e k
 cases e
 exact k _ H R .refl (show Im K H _ (.f n) from Im.fn ⟨f,rfl,h⟩) trivial
section
variable {ι:Type}{P:Program}{wd:World}{base:Heap}{K:Fg}{mg:Str->Option Value}{k k' n:Nat}{X:ι->Cx}{e:Expr}{es:List Expr}{pos p:Pos}{da:DA}{x:Str}{tb:Tb}{Γ:En}
@[simp,simp ↓] theorem zNS{n:Str}:dFn n Γ=some (.v (.f n),Γ):=rfl
end
def dDispK(ks:List Key)(fa:DA):DE:=fun Γ=>(fa Γ).bind fun p=>(trees p.1).bind fun ts=>if ks.length<=15/\ks.Nodup then some (.d (.inl (ks.zip ts)),p.2) else none
section
variable {ι:Type}{K:Fg}{mg:Str->Option Value}{k:Nat}{X:ι->Cx}{fa:DA}{pos:Pos}{Γ:En}
@[simp,simp ↓] theorem zKa{ks:List Key}:dDispK ks fa Γ=bnd (fa Γ) (f:=⟨fun p=>bnd (trees p.1) (f:=⟨fun ts=>if ks.length<=15/\ks.Nodup then some (.d (.inl (ks.zip ts)),p.2) else none⟩)⟩):=rfl
end
end D
namespace D
open PySem L2
def maxDS(d:Int):En->List S->Option S:=fun Γ as=>match as with
 | [a]=>(seqS Γ a).bind fun xs=>(intsOf xs).map fun ns=>.v (.a (.int (if ns=[] then d else maxI ns)))
 | _=>none
@[simp,simp ↓] theorem zKu{Γ:En}{d:Int}{a:S}:maxDS d Γ [a]=bnd (seqS Γ a) (f:=⟨fun xs=>omp (intsOf xs) (f:=⟨fun ns=>.v (.a (.int (if ns=[] then d else maxI ns)))⟩)⟩):=rfl
end D
namespace D
open PySem L2
variable {K:Fg}
end D
namespace D
open PySem L2
open PySem.SeqAt
end D
namespace L2
open PySem PySem.Spec PyProof.Rows
structure Ch(l S:List Addr)(h h':Heap):Prop where
 keep:∀ b o,b∉l->b∉S->h.get? b=some o->h'.get? b=some o
 slot:∀ b o,b∉S->h.get? b=some o->∃ sl,h'.get? b=some { o with slots:=sl }
section
variable {l l' S S':List Addr}{h h' h1 h2 h3:Heap}{a e T:Addr}{f:Obj->Obj}{o:Obj}
theorem Ch.trans(x:Ch l S h1 h2)(y:Ch l S h2 h3):Ch l S h1 h3 :=
 ⟨fun b o n m q=>y.keep b o n m (x.keep b o n m q),fun b o m q=>by
  obtain⟨s1,q1⟩:=x.slot b o m q
  obtain⟨s2,q2⟩:=y.slot b _ m q1
  exact⟨s2,q2⟩⟩
theorem Ch.wide(x:Ch l S h h')(hl:∀ b∈l,b∈l')(hs:∀ b∈S,b∈S'):Ch l' S' h h' :=
 ⟨fun b o n m q=>x.keep b o (fun z=>n (hl b z)) (fun z=>m (hs b z)) q,fun b o m q=>x.slot b o (fun z=>m (hs b z)) q⟩
theorem Ch.upd1:Ch l [a] h (h.update a f):=by
 have k:∀ b o,b∉[a]->h.get? b=some o->(h.update a f).get? b=some o:=fun b o m q=>by
  rw[Heap.get?_update_other _ _ (fun z=>m (by rw[z]; exact List.mem_cons_self))]; exact q
 exact⟨fun b o _ m q=>k b o m q,fun b o m q=>⟨o.slots,k b o m q⟩⟩
theorem Ch.push:Ch l S h (h.push o):=⟨fun b u _ _ q=>Heap.get?_push_of_some _ q,fun b u _ q=>⟨u.slots,Heap.get?_push_of_some _ q⟩⟩
theorem Ch.slots(x:Heap.SlotsOnly l h h'):Ch l S h h':=⟨fun b o n _ q=>(x.2.1 b n).trans q,fun b o _ q=>x.2.2 b o q⟩
theorem Ch.funs{base:Heap}{fr:List Env}(x:Ch l S h h')(hl:h.FunFrames base fr)(hS:∀ b∈S,∀ o,h.get? b=some o->∃ vs,o.data=.fields vs):h'.FunFrames base fr :=
 hl.of_keeps fun b o q hn=>by
  obtain⟨sl,q'⟩:=x.slot b o (fun z=>by obtain⟨vs,z⟩:=hS b z o q; exact hn vs z) q
  exact⟨_,q',rfl⟩
end
structure Exc(h:Heap)(e T:Addr)(C:Value)(d:Option Addr)(f:Value):Prop where
 ex:∃ oe vs,h.get? e=some oe/\oe.cls=C/\oe.dict=d/\oe.data=.fields vs/\vs[1]?=some (.ref T)
 tr:∃ oT ts,h.get? T=some oT/\oT.data=.fields ts/\ts[3]?=some f
 ne:T≠e
section
variable {M:Model}{A:Around}{E:Value->Shared->Prop}{s:Shared}{base:Heap}{env:Env}{outer:List Env}{L e T:Addr}{C:Value}{d:Option Addr}{Q:Unit->Shared->Prop}
theorem zB0{oe:Obj}{vs:Array Value}{hv:Value}{hn:Bool}(hfr:A.frames=some (env::outer))(hl:s.heap.FunFrames base (env::outer))(hf:env.frame=some L)(he:s.heap.get? e=some oe)(hd:oe.data=.fields vs)(hsz:1 < vs.size)
  (hQ:∀ h' T,s.heap.get? T=none->Exc h' e T oe.cls oe.dict (rawInt L)->Ch (frs (env::outer)) [e] s.heap h'->Q () { s with heap:=h' }) :
  wpAny M A (frameOf env >>= fun a=>entryPlaceOf L hn >>= fun pl=>EntryCells.newEntry hv a .none (rawInt L) .none pl >>= fun b=>setField (.ref e) 1 b) Q E s:=by
 have nf:e∉frs (env::outer):=fun z=>by
  obtain⟨_,o,ho,no⟩:=hl.mem z
  rw[he]at ho; cases ho; exact no vs hd
 refine wpAny_bind (wpAny_frameOf_fun hfr hl hf fun h1 k1=>wpAny_bind (wpAny_entryPlaceOf fun pl hp=>?_))
 refine wpAny_bind ?_
 unfold EntryCells.newEntry newFields
 refine wpAny_newObj_type ?_ (hp.sizeOk5 _ _ _ _ _)
 have e1:h1.get? e=some oe:=(k1.2.1 e nf).trans he
 have sz1:h1.objs.size=s.heap.objs.size:=k1.1
 have neT:h1.objs.size≠e:=Nat.ne_of_gt (Heap.lt_size e1)
 refine wpAny_setField (Heap.get?_push_of_some _ e1) hd hsz (hQ _ h1.objs.size (Heap.get?_none_of_le (Nat.le_of_eq sz1.symm)) ⟨?_,?_,neT⟩ ?_)
 ·have dm:=Obj.data_mapFields hd (·.setIfInBounds 1 (Value.ref h1.objs.size))
  refine⟨_,_,Heap.get?_update_self _ (Heap.get?_push_of_some _ e1) (Obj.isFreed_of_fields dm),Obj.cls_mapFields _ _,?_,dm,by simp[hsz]⟩
  obtain⟨c0,d0,da0,sl0⟩:=oe
  cases da0 <;> rfl
 ·refine⟨_,_,(Heap.get?_update_other _ _ (Ne.symm neT)).trans (Heap.get?_push_size h1 rfl),rfl,?_⟩
  first
   | (simp; done)
   | (rcases hp with rfl | ⟨_,_,_,_,_,_,_,rfl⟩ <;> simp)
 ·exact ((Ch.slots k1).trans Ch.push).trans Ch.upd1
theorem zFX{oe:Obj}{vs:Array Value}(hfr:A.frames=some (env::outer))(hl:s.heap.FunFrames base (env::outer))(hf:env.frame=some L)(he:s.heap.get? e=some oe)(hd:oe.data=.fields vs)(h1:vs[1]?=some .none)
  (hQ:∀ h' T,s.heap.get? T=none->Exc h' e T oe.cls oe.dict (rawInt L)->Ch (frs (env::outer)) [e] s.heap h'->Q () { s with heap:=h' }):wpAny M A (noteFrame (.ref e) env) Q E s:=by
 unfold noteFrame
 simp only[hf]
 refine wpAny_bind (wpAny_field he hd h1 ?_)
 rw[if_neg (show ¬ ((Value.none != Value.none)=true) by decide)]
 exact zB0 hfr hl hf he hd (Array.getElem?_eq_some_iff.mp h1).1 hQ
theorem zBM(hfr:A.frames=some (env::outer))(hl:s.heap.FunFrames base (env::outer))(hf:env.frame=some L)(x:Exc s.heap e T C d .none)
  (hQ:∀ h' T',s.heap.get? T'=none->Exc h' e T' C d (rawInt L)->Ch (frs (env::outer)) [e,T] s.heap h'->Q () { s with heap:=h' }):wpAny M A (noteFrame (.ref e) env) Q E s:=by
 obtain⟨⟨oe,vs,he,rfl,rfl,hd,h1⟩,⟨oT,ts,hT,hdT,h3⟩,ne⟩:=x
 unfold noteFrame
 simp only[hf]
 refine wpAny_bind (wpAny_field he hd h1 ?_)
 rw[if_pos (show (Value.ref T != Value.none)=true by simp)]
 refine wpAny_bind (wpAny_field hT hdT h3 ?_)
 rw[if_neg (show ¬ ((Value.none == rawInt L)=true) by simp[rawInt])]
 refine wpAny_bind (wpAny_setField hT hdT (Array.getElem?_eq_some_iff.mp h3).1 ?_)
 have c1:Ch (frs (env::outer)) [T] s.heap (s.heap.update T (Obj.mapFields (·.setIfInBounds 3 Value.none))):=Ch.upd1
 have he':(s.heap.update T (Obj.mapFields (·.setIfInBounds 3 Value.none))).get? e=some oe:=(Heap.get?_update_other _ _ ne).trans he
 refine zB0 hfr (c1.funs hl fun b hb o ho=>?_) hf he' hd (Array.getElem?_eq_some_iff.mp h1).1 fun h' T' n x' c=>hQ h' T' ?_ x' ((c1.wide (fun _ z=>z) fun b hb=>?_).trans (c.wide (fun _ z=>z) fun b hb=>?_))
 ·rw[List.mem_singleton.mp hb,hT]at ho; cases ho; exact⟨ts,hdT⟩
 ·cases q:s.heap.get? T' with
  | none=>rfl
  | some o =>
   by_cases z:T'=T
   ·subst z
    have:=Heap.get?_update_self (Obj.mapFields (·.setIfInBounds 3 Value.none)) hT (Obj.isFreed_of_fields (Obj.data_mapFields hdT _))
    rw[n]at this; cases this
   ·rw[(Heap.get?_update_other _ _ (Ne.symm z)).trans q]at n; cases n
 ·rw[List.mem_singleton.mp hb]; exact List.mem_cons_of_mem _ List.mem_cons_self
 ·rw[List.mem_singleton.mp hb]; exact List.mem_cons_self
theorem land{f:Value}(x:Exc s.heap e T C d f)(hQ:∀ h',Exc h' e T C d .none->Ch [] [T] s.heap h'->Q () { s with heap:=h' }):wpAny M A (setFlight (.ref e) none) Q E s:=by
 obtain⟨⟨oe,vs,he,hc,hdi,hd,h1⟩,⟨oT,ts,hT,hdT,h3⟩,ne⟩:=x
 have h3':3 < ts.size:=(Array.getElem?_eq_some_iff.mp h3).1
 unfold setFlight
 refine wpAny_bind (wpAny_field he hd h1 ?_)
 rw[if_pos (show (Value.ref T != Value.none)=true by simp)]
 refine wpAny_setField hT hdT h3' (hQ _ ⟨⟨oe,vs,(Heap.get?_update_other _ _ ne).trans he,hc,hdi,hd,h1⟩,?_,ne⟩ Ch.upd1)
 have dm:=Obj.data_mapFields hdT (·.setIfInBounds 3 ((none:Option Addr).elim Value.none fun f=>rawInt f))
 exact⟨_,_,Heap.get?_update_self _ hT (Obj.isFreed_of_fields dm),dm,by simp[h3']⟩
end
def CXR(P:Program)(w:World):CXT:=fun outer H s E e s'=>∃ (a C T:Addr) (d:Option Addr) (H':Hp),e=.ref a/\s'.os=s.os/\AllBare s'.gens/\Un (frs outer) [] H H' s.heap s'.heap/\HOk P w H' s'.heap/\H' a=none/\H' T=none /\
 s.heap.get? a=none/\s.heap.get? T=none/\Exc s'.heap a T (.ref C) d .none/\E (.ref C) d H'
theorem zBn{P:Program}{w:World}{H:Hp}{h:Heap}{a:Addr}{o:HO}(x:ObjOk P w H h a o):∃ u,h.get? a=some u:=by
 cases o with
 | lst xs=>obtain⟨_,_,_,_,e⟩:=x; exact⟨_,e⟩
 | tup xs=>obtain⟨_,_,_,ob,e,_⟩:=x; exact⟨_,e⟩
 | dK kvs=>obtain⟨_,_,_,_,o,_,_,e,_⟩:=x; exact⟨_,e⟩
 | dT kvs=>obtain⟨_,_,_,_,o,_,_,e,_⟩:=x; exact⟨_,e⟩
 | set S n=>obtain⟨o,_,_,_,e,_⟩:=x; exact⟨_,e⟩
 | ins C dx fs=>obtain⟨_,_,_,e,_⟩:=x; exact⟨_,e⟩
 | own y=>exact x
 | xd fs=>obtain⟨_,⟨_,_,_,e,_⟩,_⟩:=x; exact⟨_,e⟩
 | rng lo hi=>obtain⟨_,_,_,e⟩:=x; exact⟨_,e⟩
 | frz ob u=>exact⟨_,x.1⟩
 | tbl ps=>exact⟨_,x⟩
 | met f y=>exact⟨_,x⟩
 | ext φ=>exact x.2.1
theorem zAg{P:Program}{w:World}{H:Hp}{h:Heap}{a:Addr}(k:HOk P w H h)(e:h.get? a=none):H a=none:=by
 cases q:H a with
 | none=>rfl
 | some o=>obtain⟨u,hu⟩:=zBn (k a o q); rw[e]at hu; cases hu
theorem HOk.ch{P:Program}{w:World}{H:Hp}{h h':Heap}{l S:List Addr}(k:HOk P w H h)(c:Ch l S h h')(hl:∀ b∈l,H b=none)(hS:∀ b∈S,H b=none):HOk P w H h':=fun a o ea =>
 (k a o ea).stay (fun b u hb eb=>by
  have hn:H b≠none:=by
   rcases hb with rfl | hb
   ·rw[ea]; intro z; cases z
   ·rw[hb]; intro z; cases z
  exact c.keep b u (fun z=>hn (hl b z)) (fun z=>hn (hS b z)) eb) (fun _ z=>z) (fun _ _ z=>z)
section
variable {X:Cx}{pins:List (Addr×Obj)}{σ:St}{H H':Hp}{s s':Shared}{a T:Addr}
theorem Inv.stackFree(I:Inv X pins σ H s):∀ b∈frs X.stack,H b=none:=I.env0.frf
theorem Inv.settle(I:Inv X pins σ H s)(os:s'.os=s.os)(hg:AllBare s'.gens)(un:Un (frs X.stack) [] H H' s.heap s'.heap)(hok:HOk X.prog X.w H' s'.heap)(ha:s.heap.get? a=none)(hT:s.heap.get? T=none)(hHa:H' a=none)(hHT:H' T=none)
  {h'':Heap} {S:List Addr} (hS:∀ b∈S,b=a\/b=T\/s'.heap.get? b=none) (c:Ch (frs X.stack) S s'.heap h''):Inv X pins σ H' { s' with heap:=h'' }:=by
 have nS:∀ b o,s'.heap.get? b=some o->(∃ u,s.heap.get? b=some u)->b∉S:=fun b o q ⟨u,hu⟩ z=>by
  rcases hS b z with rfl | rfl | z
  ·rw[ha]at hu; cases hu
  ·rw[hT]at hu; cases hu
  ·rw[z]at q; cases q
 have frn:∀ b∈frs X.stack,H' b=none:=fun b hb=>by
  obtain⟨_,o,ho,_⟩:=I.env0.funs.mem hb
  exact un.free b o ho (I.stackFree b hb) (fun z=>nomatch z)
 refine I.call' (ch:=[]) os { keep:=fun b o q n hb _=>?_,slot:=fun b o q n hb hx=>?_,free:=un.free,there:=fun b o q hx=>?_,tups:=un.tups,frzs:=un.frzs,tbls:=un.tbls } (hok.ch c frn fun b hb=>?_) hg fun b z=>nomatch z
 ·have q':=un.keep b o q n hb (fun z=>nomatch z)
  exact c.keep b o hb (nS b o q' ⟨o,q⟩) q'
 ·obtain⟨sl,q'⟩:=un.slot b o q n hb hx
  obtain⟨sl2,q2⟩:=c.slot b _ (nS b _ q' ⟨o,q⟩) q'
  exact⟨sl2,q2⟩
 ·obtain⟨o',q'⟩:=un.there b o q hx
  obtain⟨sl,q2⟩:=c.slot b o' (nS b o' q' ⟨o,q⟩) q'
  exact⟨_,q2⟩
 ·rcases hS b hb with rfl | rfl | z
  ·exact hHa
  ·exact hHT
  ·exact zAg hok z
end
section
variable {P:Program}{w:World}{K:PySem.W.Frag}{mg:Str->Option Value}{base:Heap}{N:List Str}{qual:Str}{scope:Scope}{f:Addr}{cd:Value}{A:Around}{outer:List Env}{s₀:Shared}{H₀:Hp}{E:XK}{x:Str}{C:Addr}{np cpos pos:Pos}
abbrev veB:List Value:=[.type "ValueError",.type "Exception",.type "BaseException",.type "object"]
end
end L2
namespace D
open PySem L2
abbrev cxR(P:Program)(wd:World)(K:Fg)(mg:Str->Option Value)(base:Heap)(N:List Str)(qual:Str)(scope:Scope)(f:Addr)(cd:Value)(A:Around)(outer:List Env)(s:Shared)(H:Hp)(E:XK):Unit->Cx:=fun _=>cxOf (CXR P wd) P wd K mg base N qual scope f cd A outer s H E
end D
namespace L2
open PySem PySem.Spec PyProof.Rows
abbrev Cx.on(X:Cx)(E':Value->Shared->Prop):Cx:={ X with xe:=E' }
abbrev Cx.inn(X:Cx)(a:Addr)(E':Value->Shared->Prop):Cx:={ X with xe:=E',calm:=false,A:=X.A.mark (some (.ref a)) }
section
variable {X:Cx}{pins:List (Addr×Obj)}{σ:St}{H H':Hp}{s s':Shared}{a T:Addr}{E':Value->Shared->Prop}
theorem Inv.on(I:Inv X pins σ H s):Inv (X.on E') pins σ H s :=
 ⟨⟨I.ok.mod,I.ok.kind,I.ok.glob,I.ok.blt,I.ok.above,I.ok.inj,I.ok.has,I.ok.cab,I.ok.hd,I.ok.frames,I.ok.stk,I.ok.exf,I.ok.bs,I.ok.bsz,I.ok.noex,I.ok.exfs,I.ok.funs,I.ok.frf⟩,I.os,I.bare,I.base,I.loc,I.cell,I.free,I.freeC,I.pin,I.hok,I.len⟩
theorem Inv.off(I:Inv (X.on E') pins σ H s):Inv X pins σ H s :=
 ⟨⟨I.ok.mod,I.ok.kind,I.ok.glob,I.ok.blt,I.ok.above,I.ok.inj,I.ok.has,I.ok.cab,I.ok.hd,I.ok.frames,I.ok.stk,I.ok.exf,I.ok.bs,I.ok.bsz,I.ok.noex,I.ok.exfs,I.ok.funs,I.ok.frf⟩,I.os,I.bare,I.base,I.loc,I.cell,I.free,I.freeC,I.pin,I.hok,I.len⟩
theorem Inv.inn(I:Inv X pins σ H s):Inv (X.inn a E') pins σ H s :=
 ⟨⟨I.ok.mod,I.ok.kind,I.ok.glob,I.ok.blt,I.ok.above,I.ok.inj,I.ok.has,I.ok.cab,fun z=>Bool.noConfusion z,I.ok.frames,I.ok.stk,I.ok.exf,I.ok.bs,I.ok.bsz,I.ok.noex,I.ok.exfs,I.ok.funs,I.ok.frf⟩,I.os,I.bare,I.base,I.loc,I.cell,I.free,I.freeC,I.pin,I.hok,I.len⟩
theorem Inv.out(ok:X.Ok)(I:Inv (X.inn a E') pins σ H s):Inv X pins σ H s :=
 ⟨ok,I.os,I.bare,I.base,I.loc,I.cell,I.free,I.freeC,I.pin,I.hok,I.len⟩
theorem Inv.names{h':Heap}{σ':St}{t':Nat}(I:Inv X pins σ H s)(hs:Heap.SameBut X.env.locals s.heap h')(hn:∃ m,h'.Ns X.env.locals m/\∀ (i:Nat) (x:Str) (v:V),X.N[i]?=some x->σ'[i]?=some (some v)->Vis X.env.scope x->∃ u,RelV v u/\Look X.env h' m x u)(hl:σ'.length=σ.length) :
  Inv X pins σ' H { s with heap:=h',toks:=t' }:=by
 have low:∀ b o,X.s₀.heap.get? b=some o->b≠X.env.locals:=fun b o e=>Nat.ne_of_lt (Nat.lt_of_lt_of_le (Heap.lt_size e) I.ok.above)
 refine⟨I.ok,I.os,I.bare,{ keep:=fun b o e n hb hx=>(hs.2 b (low b o e)).trans (I.base.keep b o e n hb hx),slot:=fun b o e n hb hx=>?_,free:=I.base.free,there:=fun b o e hx=>?_,tups:=I.base.tups,frzs:=I.base.frzs,tbls:=I.base.tbls },hn,fun y c e=>?_,I.free,I.freeC,fun p hp=>?_,fun b u e=>?_,hl.trans I.len⟩
 ·obtain⟨sl,q⟩:=I.base.slot b o e n hb hx
  exact⟨sl,(hs.2 b (low b o e)).trans q⟩
 ·obtain⟨o',q⟩:=I.base.there b o e hx
  exact⟨o',(hs.2 b (low b o e)).trans q⟩
 ·obtain⟨w',z⟩:=I.cell y c e
  exact⟨w',z.sameBut hs (I.cne y c e)⟩
 ·obtain⟨p1,p2,p3,p4,p5⟩:=I.pin p hp
  exact⟨(hs.2 p.1 p3).trans p1,p2,p3,p4,p5⟩
 ·refine (I.hok b u e).stay (fun c v hc q=>(hs.2 c ?_).trans q) (fun _ q=>q) fun _ _ q=>q
  rintro rfl
  rcases hc with rfl | hc
  ·rw[I.free]at e; cases e
  ·rw[I.free]at hc; cases hc
theorem zBk{M:Model}{A:Around}{E:Value->Shared->Prop}{n:Str}{j:Nat}{pos:Pos}{Q:Unit->Shared->Prop}(I:Inv X pins σ H s)(hN:X.N.Nodup)(hj:X.N[j]?=some n)(hk:X.env.scope.names.lookup n=some .local)
  (h:∀ s',Inv X pins (σ.set j none) H s'->Q () s'):wpAny M A (bindName X.env n .none >>= fun _=>unbindBehindTheSuite X.env n pos) Q E s:=by
 have hcls:(X.env.scope.kind == .class || (X.env.scope.kind == .module && X.env.locals != X.env.globals))=false:=by rw[I.ok.kind]; rfl
 have hkn:X.env.kindOf n=some .local:=hk
 refine wpAny_bind (wpAny_bindName (zC3 (v:=.non) (u:=.none) I hN hj (.inl hk) rfl (fun s1 I1 _=>?_) (.inr hk)))
 unfold unbindBehindTheSuite
 refine wpAny_onRaise ?_
 unfold unbindName
 refine wpAny_bind (wpAny_point (wpAny_bind ?_))
 obtain⟨m,hn,hl⟩:=id I1.loc
 have hjl:j < σ.length:=by rw[I.len]; exact (List.getElem?_eq_some_iff.mp hj).1
 obtain⟨u,_,hlook⟩:=hl j n .non hj (by rw[List.getElem?_set_self hjl]) (.inl hk)
 have hmn:(m n).isSome=true:=by
  rcases hlook with ⟨_,e⟩ | ⟨z | z,_⟩
  ·rw[e]; rfl
  ·rw[hkn]at z; cases z
  ·rw[hkn]at z; cases z
 unfold deleteName
 simp only[hkn,hcls]
 rw[if_neg (show ¬ (false=true) by decide)]
 refine wpAny_bind (wpAny_nsDel_keeps hn fun h2 v hn2 hs2=>?_)
 simp only[hmn,Bool.not_true,Bool.false_eq_true,if_false]
 refine wpAny_pure (wpAny_point (h _ ?_))
 refine I1.names (t':=s1.toks) hs2 ⟨_,hn2,fun i y w e1 e2 e3=>?_⟩ (by simp)
 by_cases hi:i=j
 ·subst hi
  rw[List.getElem?_set_self hjl]at e2; cases e2
 ·rw[List.getElem?_set_ne (Ne.symm hi)]at e2
  obtain⟨u',r',q⟩:=hl i y w e1 (by rw[List.getElem?_set_ne (Ne.symm hi)]; exact e2) e3
  refine⟨u',r',?_⟩
  rcases q with ⟨k,e⟩ | ⟨k,c,e,z⟩
  ·have:y≠n:=fun z=>hi (zBu hN e1 (z ▸ hj))
   exact .inl ⟨k,by simp[this,e]⟩
  ·exact .inr ⟨k,c,e,z.sameBut hs2 (I1.cne y c e)⟩
end
def catches(K:PySem.W.Frag)(C D:Addr):Bool:=PySem.W.subIn K (.ref C) (.ref D) == some true && PySem.W.typeIn K (.ref D) == some (.type "type") && PySem.W.subIn K (.ref D) (.type "BaseException") == some true && (PySem.W.clsIn K D).isSome
theorem zC7{K:PySem.W.Frag}{M:Model}{h:Heap}{D:Addr}(X:K.In h)(e:(PySem.W.clsIn K D).isSome=true):PySem.W.Looks M h (isType (.ref D)) true:=by
 unfold PySem.W.clsIn at e
 split at e
 ·rename_i ho
  intro A' Q' E' s' k q
  unfold isType loadHead
  exact wpAny_bind (wpAny_loadPart (k _ _ (X _ _ ho)) (wpAny_pure q))
 ·cases e
theorem zHN{K:PySem.W.Frag}{M:Model}{A:Around}{E:Value->Shared->Prop}{s:Shared}{a C D:Addr}{oe:Obj}{Q:Bool->Shared->Prop}(X:K.In s.heap)(he:s.heap.get? a=some oe)(hc:oe.cls=.ref C)(q:catches K C D=true)(h:Q true s) :
  wpAny M A (excMatches (.ref a) (.ref D)) Q E s:=by
 unfold catches at q
 simp only[Bool.and_eq_true,beq_iff_eq]at q
 obtain⟨⟨⟨q1,q2⟩,q3⟩,q4⟩:=q
 have L1:=PySem.W.looks_subIn (M:=M) X q1
 have L2:=PySem.W.looks_typeIn (M:=M) X q2
 have L3:=PySem.W.looks_subIn (M:=M) X q3
 have L4:=zC7 (M:=M) X q4
 have L0:PySem.W.Looks M s.heap (typeOf (.ref a)) (.ref C):=hc ▸ (PySem.W.Looks.ld he).andThen .now
 have L5:PySem.W.Looks M s.heap (isSubtype (.type "type") (.type "tuple")) false:=PySem.W.looks_subIn X (show (fastBuiltinMro "type").map (fun x=>x.contains (Value.type "tuple"))=some false by decide +kernel)
 obtain⟨hh,g,d,tk,os⟩:=s
 unfold excMatches isInstance
 refine wpAny_bind (wpAny_bind (L2.at (L5.at ?_)))
 rw[if_neg (show ¬ (false=true) by decide)]
 refine wpAny_bind (wpAny_pure ?_)
 refine wpAny_bind ?_
 rw[List.forIn_cons]
 refine wpAny_bind ?_
 unfold isExcClass
 refine wpAny_bind (wpAny_bind (L4.at ?_))
 rw[if_pos rfl]
 refine L3.at ?_
 simp only[Bool.not_true,Bool.false_eq_true,if_false]
 refine wpAny_pure ?_
 dsimp only
 rw[List.forIn_nil]
 refine wpAny_pure ?_
 refine wpAny_bind (L0.at ?_)
 refine wpAny_bind ?_
 rw[List.forIn_cons]
 refine wpAny_bind (wpAny_bind (L1.at ?_))
 rw[if_pos rfl]
 exact wpAny_pure (wpAny_pure (wpAny_pure h))
abbrev xφ(x D:Addr)(d:Option Addr):Heap->Prop:=fun h=>∃ o,h.get? x=some o/\o.cls=.ref D/\o.dict=d/\PySem.W.notCls o=true
def xo(a C:Addr)(d:Option Addr):HO:=.ext (xφ a C d)
def endsJ(j:Nat)(D:Ends):Ends:={ nx:=fun σ H=>D.nx (σ.set j none) H,rt:=D.rt,bk:=fun σ H=>D.bk (σ.set j none) H,ct:=fun σ H=>D.ct (σ.set j none) H }
def wishX(K:PySem.W.Frag)(Dc:Addr)(j:Nat)(ts:TS)(D:Ends)(σ:St):XK:=fun cls d H'=>∃ C,cls=.ref C/\catches K C Dc=true/\∀ a,H' a=none->ts (endsJ j D) (σ.set j (some (.ref a))) (upd H' a (xo a C d))
section
variable {X:Cx}{pins:List (Addr×Obj)}{σ:St}{H:Hp}{s:Shared}{a:Addr}{o:HO}
theorem Inv.track(I:Inv X pins σ H s)(hH:H a=none)(h0:X.s₀.heap.get? a=none)(hl:X.env.locals≠a)(hc:∀ x c,X.env.cells.lookup x=some c->c≠a)(hp:∀ p∈X.pn++pins,p.1≠a)(ok:ObjOk X.prog X.w (upd H a o) s.heap a o) :
  Inv X pins σ (upd H a o) s:=by
 have ne:∀ {b:Addr} {u:HO},H b=some u->b≠a:=fun {b u} e z=>by rw[z,hH]at e; cases e
 have up:∀ {b:Addr} {u:HO},H b=some u->upd H a o b=some u:=fun {b u} e=>by rw[zAB (ne e)]; exact e
 refine⟨I.ok,I.os,I.bare,{ keep:=I.base.keep,slot:=I.base.slot,free:=fun b ob e n hx=>?_,there:=I.base.there,tups:=fun b xs e=>up (I.base.tups b xs e),frzs:=fun b ob u e=>up (I.base.frzs b ob u e),tbls:=fun b ps e=>?_ },I.loc,I.cell,by rw[zAB hl]; exact I.free,fun x c e=>by rw[zAB (hc x c e)]; exact I.freeC x c e,fun p hp'=>?_,fun b u e=>?_,I.len⟩
 ·rw[zAB (fun z:b=a=>by rw[z,h0]at e; cases e)]
  exact I.base.free b ob e n hx
 ·obtain⟨m,e'⟩:=I.base.tbls b ps e; exact⟨m,up e'⟩
 ·obtain⟨p1,p2,p3,p4,p5⟩:=I.pin p hp'
  exact⟨p1,by rw[zAB (hp p hp')]; exact p2,p3,p4,p5⟩
 ·by_cases z:b=a
  ·subst z
   rw[zAF]at e; cases e
   exact ok
  ·rw[zAB z]at e
   exact (I.hok b u e).stay (fun c v hc' ec=>ec) (fun c ec=>up ec) (fun c xs ec=>up ec)
end
section
variable {X:Cx}{k:Nat}{f Dc:Addr}{fd:FuncData}{ps:List Str}{sp:Sp}{x y n:Str}{p pos np hpos spos:Pos}{e:Expr}{es:List Expr}{t:TA}{ts:TS}{b₀:Stmt}{suite:List Stmt}{j:Nat}
theorem zE6{pins:List (Addr×Obj)}{s:Shared}{σ:St}{H:Hp}{Q:VK}{W:XK}(F:FnOk X.prog X.w X.K X.mg X.base (CXR X.prog X.w) k f fd ps sp)(hr:Room k X.A)(hg:Gl X x)(hm:X.mg x=some (.ref f))(hk:PySem.W.keepIn X.K (.ref f)=true)(hb:Binds X.K fd ps [])
  (ha:∀ E',PA (X.on E') (e::es) t) (hdb:(x == ("__debug__":Str))=false) (he:starEach (e::es) X.env=(false,eval e X.env)::starEach es X.env) (hpl:(backTo pos (starEach es X.env)).any (·.1)=false)
  (I:Inv X pins σ H s) (h:t σ H fun vs H1=>sp vs H1 Q W) :
  wpAny (model X.prog X.w) X.A (eval (.Call (.Name x p) (e::es) [] pos) X.env) (EP X pins σ Q) (fun e s'=>∃ H1 s1,Inv X pins σ H1 s1/\CXR X.prog X.w X.stack H1 s1 W e s') s:=by
 refine wpAny_Call_Name_kw (zAh I hg hm ?_ hdb)
 refine PySem.W.callWith_K (h₀:=X.base) I.ok.mod.kin hk (thn (ha (fun e s'=>∃ H1 s1,Inv X pins σ H1 s1/\CXR X.prog X.w X.stack H1 s1 W e s') pos pins s σ H _ I.on h) fun us s1 z=>?_) he hpl
 obtain⟨vs,H1,I1',r,q⟩:=z
 have I1:Inv X pins σ H1 s1:=I1'.off
 refine⟨I1.kIn,?_⟩
 have hl:(us++([]:List Value)).length=ps.length:=by rw[List.append_nil,← r.length]; exact F.len _ _ _ _ q
 refine wpAny_call (codeAny_mono (F.run X.A X.stack s1 H1 ⟨us,[]⟩ (us++[]) vs Q W hr I1.env0 (hb s1 us I1.kIn hl) (by rw[List.append_nil]; exact r) q) fun r s' hq=>?_)
 cases r with
 | error e=>exact⟨H1,s1,I1,hq⟩
 | ok fl =>
  cases fl with
  | ret u=>exact I1.after hq
  | next=>exact False.elim hq
  | brk=>exact False.elim hq
  | cont=>exact False.elim hq
theorem zGV{pins:List (Addr×Obj)}{s s':Shared}{σ:St}{H:Hp}{D:Ends}{e:Value}(hst:X.stack=X.env::X.outer)(hex:X.ex=[])(hfr:X.env.frame=some X.env.locals)(hN:X.N.Nodup)(hj:X.N[j]?=some n)(hk:X.env.scope.names.lookup n=some .local)(hgy:Gl X y)(hmy:X.mg y=some (.ref Dc))(hyd:(y == ("__debug__":Str))=false)
  (hs:∀ a E',PSs (X.inn a E') (b₀::suite) ts) (I:Inv X pins σ H s) (c:CXR X.prog X.w X.stack H s (wishX X.K Dc j ts D σ) e s') :
  wpAny (model X.prog X.w) X.A (noteFrame e X.env) (fun _ s₂=>wpAny (model X.prog X.w) X.A (setFlight e none) (fun _ s₃=>wpAny (model X.prog X.w) X.A (handleBy e X.env [.ExceptHandler (some (.Name y np)) (some n) (b₀::suite) hpos]) (SP X pins D) X.xe s₃) X.xe s₂) X.xe s':=by
 obtain⟨a,C',T,d,H',rfl,os,hg,un,hok,hHa,hHT,ha,hT,x,C,e0,hcat,hts⟩:=c
 cases e0
 have I0:Inv X pins σ H' s':=I.settle (S:=[]) (h'':=s'.heap) os hg un hok ha hT hHa hHT (fun _ z=>nomatch z) ⟨fun _ _ _ _ q=>q,fun _ o _ q=>⟨o.slots,q⟩⟩
 have hfun:s'.heap.FunFrames X.base (X.env::X.outer):=hst ▸ I0.env0.funs
 refine zBM (base:=X.base) (outer:=X.outer) (hst ▸ I.ok.frames) hfun hfr x fun h2 T2 n2 x2 c2=>?_
 refine land (s:={ s' with heap:=h2 }) x2 fun h3 x3 c3=>?_
 rw[← hst]at c2
 have c23:Ch (frs X.stack) [a,T,T2] s'.heap h3:=(c2.wide (fun _ z=>z) fun b z=>by
  rcases List.mem_cons.mp z with rfl | z
  ·exact List.mem_cons_self
  ·rw[List.mem_singleton.mp z]; exact List.mem_cons_of_mem _ List.mem_cons_self).trans (c3.wide (fun _ z=>nomatch z) fun b z=>by rw[List.mem_singleton.mp z]; exact List.mem_cons_of_mem _ (List.mem_cons_of_mem _ List.mem_cons_self))
 have inS:∀ b∈[a,T,T2],b=a\/b=T\/s'.heap.get? b=none:=fun b z=>by
  rcases List.mem_cons.mp z with z | z
  ·exact .inl z
  ·rcases List.mem_cons.mp z with z | z
   ·exact .inr (.inl z)
   ·exact .inr (.inr (by rw[List.mem_singleton.mp z]; exact n2))
 have I3:Inv X pins σ H' { s' with heap:=h3 }:=I.settle os hg un hok ha hT hHa hHT inS c23
 refine wpAny_handleBy_cons (codeAny_handlers_test (zAh (X:=X.inn a X.xe) I3.inn hgy hmy ?_ hyd)) (by intro z; cases z)
 obtain⟨oe,vs,he,hcl,_,_,_⟩:=x3.ex
 refine zHN (K:=X.K) I3.kIn he hcl hcat ?_
 show codeAny _ _ (.handlers _ [.ExceptHandler none (some n) (b₀::suite) hpos] X.env) _ _
 refine codeAny_handlers_suite_as ?_
 refine land (s:={ s' with heap:=h3 }) x3 fun h4 x4 c4=>?_
 have c24:Ch (frs X.stack) [a,T,T2] s'.heap h4:=c23.trans (c4.wide (fun _ z=>nomatch z) fun b z=>by rw[List.mem_singleton.mp z]; exact List.mem_cons_of_mem _ (List.mem_cons_of_mem _ List.mem_cons_self))
 have I4:Inv X pins σ H' { s' with heap:=h4 }:=I.settle os hg un hok ha hT hHa hHT inS c24
 obtain⟨oe4,vs4,he4,hcl4,hd4,hda4,_⟩:=x4.ex
 have hnc:PySem.W.notCls oe4=true:=by unfold PySem.W.notCls; rw[hda4]
 have a0:X.s₀.heap.get? a=none:=by
  cases q0:X.s₀.heap.get? a with
  | none=>rfl
  | some o=>obtain⟨o',q1⟩:=I.base.there a o q0 (by rw[hex]; exact fun z=>nomatch z); rw[ha]at q1; cases q1
 have I5:Inv X pins σ (upd H' a (xo a C' d)) { s' with heap:=h4 }:=I4.track hHa a0 (fun z=>by
   obtain⟨m,⟨o,_,_,ho,_⟩,_⟩:=I.loc
   rw[z,ha]at ho; cases ho) (fun z c hc q=>by
   obtain⟨v,o,ho,_⟩:=I.cell z c hc
   rw[q,ha]at ho; cases ho) (fun p hp q=>by
   have:=(I.pin p hp).1
   rw[q,ha]at this; cases this) ⟨⟨oe4,he4,hcl4,hd4,hnc⟩,⟨oe4,he4⟩,fun h1 h2 ⟨o,q1,q2,q3⟩ k=>⟨o,k o q1,q2,q3⟩⟩
 have I5':Inv (X.inn a (AsSuiteRaised (model X.prog X.w) (X.A.mark (some (.ref a))) X.env n hpos (notedBy (model X.prog X.w) (X.A.mark (some (.ref a))) X.env (cameBackBy (model X.prog X.w) X.A X.env X.xe)))) pins σ (upd H' a (xo a C' d)) { s' with heap:=h4 }:=I5.inn
 refine zAO (X:=X.inn a (AsSuiteRaised (model X.prog X.w) (X.A.mark (some (.ref a))) X.env n hpos (notedBy (model X.prog X.w) (X.A.mark (some (.ref a))) X.env (cameBackBy (model X.prog X.w) X.A X.env X.xe)))) (v:=.ref a) I5' hN hj (.inl hk) rfl (fun s5 I6=>?_) (.inr hk)
 refine wpAny_mono (hs a _ pins s5 _ _ (endsJ j D) I6 (hts a hHa)) (fun fl s6 q=>?_) fun _ _ z=>z
 have ok:=I.ok
 cases fl with
 | next =>
  obtain⟨σ',H2,J,q⟩:=q
  exact zBk (J.out ok) hN hj hk fun s7 I7=>⟨_,H2,I7,q⟩
 | brk =>
  obtain⟨σ',H2,J,q⟩:=q
  exact zBk (J.out ok) hN hj hk fun s7 I7=>⟨_,H2,I7,q⟩
 | cont =>
  obtain⟨σ',H2,J,q⟩:=q
  exact zBk (J.out ok) hN hj hk fun s7 I7=>⟨_,H2,I7,q⟩
 | ret u =>
  obtain⟨v,σ',H2,J,rv,q⟩:=q
  exact zBk (J.out ok) hN hj hk fun s7 I7=>⟨v,_,H2,I7,rv,q⟩
end
end L2
namespace D
open PySem L2
section
variable {K:Fg}
theorem zGv{C:Fr}{w:W}{Γ1:En}{σ:St}{H1:Hp}{vs:List V}{ss:List S}{gs:List G}(R1:Rep K C w Γ1 σ H1)(o1:SOks K C w σ H1 vs ss)(e2:argsG none Γ1 0 ss=some gs) :
  Rep K ⟨H1,[],[]⟩ ⟨[],fun q=>∃ o,H1 q=some o⟩ (gs.map some) (vs.map some) H1:=by
 have hl:=o1.len
 have hgl:=zAz e2
 refine⟨by simp[hl,hgl],fun j g h=>?_,fun i j p ga gb ma mb h1 h2 h3 h4=>?_,fun p hp=>(nomatch hp),fun p hp=>(nomatch hp),fun p hp=>hp,fun p hp=>nofun,fun b o h _=>h,fun q hq=>(nomatch hq)⟩
 ·rw[List.getElem?_map]at h
  obtain⟨g',h',h⟩:=zAA h
  cases h
  obtain⟨s,a1,a2⟩:=zAN e2 h'
  obtain⟨v,b1,b2⟩:=o1.get a1
  refine⟨v,by rw[List.getElem?_map,b1]; rfl,?_⟩
  cases s with
  | v t=>cases a2; exact b2
  | l xs =>
   simp only[argG,reduceCtorEq,if_false,Option.some.injEq]at a2
   subst a2
   obtain⟨p,us,rfl,n1,n2,ow,h1,h2⟩:=b2
   exact⟨p,us,rfl,h2,h1,nofun,⟨_,h1⟩⟩
  | d xs =>
   simp only[argG,reduceCtorEq,if_false,Option.some.injEq]at a2
   subst a2
   obtain⟨p,us,rfl,n1,n2,ow,h1,h2⟩:=b2
   exact⟨p,us,rfl,h2,h1,nofun,⟨_,h1⟩⟩
  | s i =>
   have b2':σ[i]?=some (some v):=b2
   unfold argG at a2
   dsimp only at a2
   split at a2
   ·rename_i xs hx
    simp only[reduceCtorEq,if_false,Option.some.injEq]at a2
    subst a2
    obtain⟨v',c1,p,us,rfl,c2,c3,c4⟩:=R1.val i _ hx
    rw[b2']at c1; cases c1
    exact⟨p,us,rfl,c4,c3,nofun,⟨_,c3⟩⟩
   ·rename_i xs hx
    simp only[reduceCtorEq,if_false,Option.some.injEq]at a2
    subst a2
    obtain⟨v',c1,p,us,rfl,c2,c3⟩:=R1.val i _ hx
    rw[b2']at c1; cases c1
    exact⟨p,us,rfl,c2,c3.1,nofun,R1.ra p c3.2.2⟩
   ·rename_i xs hx
    simp only[reduceCtorEq,if_false,Option.some.injEq]at a2
    subst a2
    obtain⟨v',c1,c2⟩:=R1.val i _ hx
    rw[b2']at c1; cases c1
    exact c2
   ·rename_i xs hx
    simp only[reduceCtorEq,if_false,Option.some.injEq]at a2
    subst a2
    obtain⟨v',c1,p,us,rfl,c2,c3,c4⟩:=R1.val i _ hx
    rw[b2']at c1; cases c1
    exact⟨p,us,rfl,c4,c3,nofun,⟨_,c3⟩⟩
   ·rename_i xs hx
    simp only[reduceCtorEq,if_false,Option.some.injEq]at a2
    subst a2
    obtain⟨v',c1,p,us,rfl,c2,c3⟩:=R1.val i _ hx
    rw[b2']at c1; cases c1
    exact⟨p,us,rfl,c2,c3.1,nofun,R1.ra p c3.2.2⟩
   ·cases a2
 ·rw[List.getElem?_map]at h1
  obtain⟨g',h',h⟩:=zAA h1
  cases h
  obtain⟨s,a1,a2⟩:=zAN e2 h'
  cases s with
  | v t=>cases a2; cases ma
  | l xs=>simp[argG]at a2; subst a2; cases ma
  | d xs=>simp[argG]at a2; subst a2; cases ma
  | s i =>
   unfold argG at a2
   dsimp only at a2
   split at a2 <;> simp at a2 <;> (subst a2; cases ma)
theorem Rep.unset{C:Fr}{w:W}{Γ:En}{σ:St}{H:Hp}{j:Nat}(R:Rep K C w Γ σ H)(hn:∀ q∈C.pins,q.1≠j):Rep K C w (Γ.set j none) (σ.set j none) H:=by
 have back:∀ (m:Nat) (g:G),(Γ.set j none)[m]?=some (some g)->m≠j/\Γ[m]?=some (some g):=fun m g h=>by
  by_cases e:m=j
  ·subst e
   rcases Nat.lt_or_ge m Γ.length with z | z
   ·rw[List.getElem?_set_self z]at h; cases h
   ·rw[List.getElem?_eq_none (by simpa using z)]at h; cases h
  ·rw[List.getElem?_set_ne (Ne.symm e)]at h; exact⟨e,h⟩
 refine⟨by simpa using R.len,fun m g h=>?_,fun a b p ga gb ma mb h1 h2 h3 h4=>?_,R.lst,R.own,R.ra,R.rl,R.frame,fun q hq=>?_⟩
 ·obtain⟨n,h'⟩:=back m g h
  obtain⟨v,e1,e2⟩:=R.val m g h'
  exact⟨v,by rw[List.getElem?_set_ne (Ne.symm n)]; exact e1,e2⟩
 ·obtain⟨n1,g1⟩:=back a ga h1
  obtain⟨n2,g2⟩:=back b gb h2
  rw[List.getElem?_set_ne (Ne.symm n1)]at h3
  rw[List.getElem?_set_ne (Ne.symm n2)]at h4
  exact R.apart a b p ga gb ma mb g1 g2 h3 h4
 ·obtain⟨h1,xs,h2⟩:=R.pin q hq
  have:=hn q hq
  exact⟨by rw[List.getElem?_set_ne (Ne.symm this)]; exact h1,xs,by rw[List.getElem?_set_ne (Ne.symm this)]; exact h2⟩
end
def goO(j:Nat):O->O
 | .nx Γ=>.nx (Γ.set j none)
 | .bk Γ=>.bk (Γ.set j none)
 | .ct Γ=>.ct (Γ.set j none)
 | .rt s Γ=>.rt s Γ
section
variable {K:Fg}{ip:Option Nat}
theorem zJB{C:Fr}{D:Ends}{j:Nat}{o:O}(hn:∀ q∈C.pins,q.1≠j)(k:OkO K C D (goO j o)):OkO K C (endsJ j D) o:=by
 cases o with
 | nx Γ=>exact fun w σ H R=>k w _ H (R.unset hn)
 | bk Γ=>exact fun w σ H R=>k w _ H (R.unset hn)
 | ct Γ=>exact fun w σ H R=>k w _ H (R.unset hn)
 | rt s Γ=>exact k
end
def Cat(K:Fg)(mg:Str->Option Value)(y c:Str):Prop:=∃ D,mg y=some (.ref D)/\∀ C,PySem.W.nsIn K mainGlobals c=some (some (.ref C))->catches K C D=true
abbrev EE:=Value->Shared->Prop
abbrev onF{ι:Type}(X:ι->Cx):ι×EE->Cx:=fun q=>(X q.1).on q.2
abbrev innF{ι:Type}(X:ι->Cx):ι×Addr×EE->Cx:=fun q=>(X q.1).inn q.2.1 q.2.2
section
variable {ι:Type}{P:Program}{wd:World}{base:Heap}{K:Fg}{mg:Str->Option Value}{k k' n nN:Nat}{X:ι->Cx}{ip:Option Nat}{x y c nm:Str}{e:Expr}{es:List Expr}{da:DA}{fs:DS}{F:DF}{dt:DT}{b₀:Stmt}{suite:List Stmt}{p pos np hpos epos tpos:Pos}
theorem Fm.on(M:Fm K mg k X):Fm K mg k (onF X):=⟨fun q=>M.K q.1,fun q=>M.mg q.1,fun q=>M.calm q.1,fun q=>M.room q.1⟩
end
end D
namespace L2
open PySem PySem.Spec PyProof.Rows
open PySem.W in
theorem zGI{K:Frag}{prog:Program}{w:World}{A:Around}{E:Value->Shared->Prop}{s:Shared}{x D:Addr}{ox:Obj}{od:Option Obj}{Q:Option Value->Shared->Prop}(X:K.In s.heap)(I:InstAt s.heap x ox D od)
  (hga:findIn K (.ref D) "__getattribute__"=some (some (.builtin "BaseException.__getattribute__"))) (hg0:findIn K (.ref D) "__getattr__"=some none)
  (hf:findObj K D od "__class__"=some (.bind (.builtin "getset_descriptor.__get__") (.builtin "object.__class__"))) (hm:mroIn K D (.type "object")=some true) (hb:subIn K (.ref D) (.type "BaseException")=some true)
  (h:Q (some (.ref D)) { s with toks:=s.toks+1 }):wpAny (model prog w) A (getAttr? (.ref x) "__class__") Q E s:=by
 obtain⟨hh,g,d,t,os⟩:=s
 have L0:=I.type (M:=model prog w)
 have L1:=looks_findIn (M:=model prog w) X hga
 have L2:=looks_findIn (M:=model prog w) X hg0
 have L3:=looks_subIn (M:=model prog w) X hb
 have L4:=looks_find (M:=model prog w) X I hf
 have f3:=F.excAttr_ValueError.ga.bind (.ref x)
 have hx1:(onTheHeap (Value.ref D) && Value.builtin "BaseException.__getattribute__" == Value.builtin "object.__getattribute__")=false:=by
  rw[show (Value.builtin "BaseException.__getattribute__" == Value.builtin "object.__getattribute__")=false by decide +kernel]; rfl
 unfold getAttr? getAttrBy? getAttrBy
 refine wpAny_bind (wpAny_mkText (wpAny_bind (wpAny_attempt (wpAny_holding (wpAny_bind (L0.at (wpAny_bind (L1.at ?_))))))))
 dsimp only
 rw[if_neg (by rw[hx1]; decide)]
 unfold getAttrByItsOwn hookBefore
 refine wpAny_bind ?_
 rw[if_pos (show onTheHeap (Value.ref D)=true from rfl)]
 refine L2.at ?_
 refine wpAny_bind (wpAny_attempt (wpAny_holding ?_))
 unfold callGetattribute
 rw[if_neg (by simp)]
 repeat (any_goals (first | assumption | wp_step))
 refine codeAny_call_builtin F.excAttr_ValueError.ga.plain F.entry_bexc_ga ?_
 have hk:builtinKind "BaseException.__getattribute__"=some .slot:=by decide +kernel
 have hsplit:splitId "BaseException.__getattribute__"=some ("BaseException","__getattribute__"):=by decide +kernel
 simp only[checkBuiltinCall,hk,hsplit]
 unfold isInstance
 have ha:=F.args_bexc_ga (.ref x) (.str "__class__" t)
 dsimp only[List.cons_append,List.nil_append]
 refine wpAny_bind (wpAny_bind (L0.at (L3.at ?_)))
 simp only[Bool.not_true,Bool.false_eq_true,if_false]
 repeat (first | assumption | with_reducible refine L0.at ?_ | with_reducible refine L4.at ?_ | wp_step)
 refine PySem.W.class_get (s:=⟨hh,g,d,t+1,os⟩) X I hm ?_
 exact wpAny_pure (PySem.W.handed_on rfl (wpAny_pure h))
def excKit(K:PySem.W.Frag)(D:Addr):Bool:=PySem.W.findIn K (.ref D) "__getattribute__" == some (some (.builtin "BaseException.__getattribute__")) && PySem.W.findIn K (.ref D) "__getattr__" == some none && PySem.W.subIn K (.ref D) (.type "BaseException") == some true && (PySem.W.clsIn K D).isSome && PySem.W.findIn K (.ref D) "__class__" == some (some (.builtin "object.__class__")) &&
 PySem.W.specialIn K (.builtin "object.__class__") "__get__" == some (some (.builtin "getset_descriptor.__get__")) && PySem.W.takesIn K (.builtin "object.__class__") == some true && PySem.W.mroIn K D (.type "object") == some true
abbrev xψ(x D:Addr)(d:Option Addr):Heap->Prop:=fun h=>xφ x D d h/\∀ dx,d=some dx->∃ u,h.get? dx=some u
theorem zBz{K:PySem.W.Frag}{x D:Addr}{d:Option Addr}(q:excKit K D=true):PySem.W.KitX K (.ref x) (.ref D) (xψ x D d):=by
 unfold excKit at q
 simp only[Bool.and_eq_true,beq_iff_eq]at q
 obtain⟨⟨⟨⟨⟨⟨⟨q0,q01⟩,q02⟩,q2⟩,q3⟩,q4⟩,q5⟩,q6⟩:=q
 refine⟨fun M h X p=>?_,fun M h X _=>zC7 X q2,fun h tp dd its n sl X htp=>?_,fun {prog w A E Q s} X p k=>?_⟩
 ·obtain⟨⟨o,h1,h2,_⟩,_⟩:=p
  exact h2 ▸ (PySem.W.Looks.ld h1).andThen .now
 ·refine Bool.eq_false_iff.mpr fun z=>?_
  have e:D=tp:=Value.ref.inj (beq_iff_eq.mp z)
  subst e
  unfold PySem.W.clsIn at q2
  split at q2
  ·rename_i ho
   have z:=(X _ _ ho).symm.trans htp
   cases z
  ·cases q2
 ·obtain⟨⟨o,h1,h2,h3,h4⟩,h5⟩:=p
  have go:∀ od:Option Obj,PySem.W.InstAt s.heap x o D od->wpAny (model prog w) A (getAttr? (.ref x) "__class__") Q E s:=fun od I=>by
   have hf:PySem.W.findObj K D od "__class__"=some (.bind (.builtin "getset_descriptor.__get__") (.builtin "object.__class__")):=by
    obtain⟨cd,hc⟩:=Option.isSome_iff_exists.mp q2
    unfold PySem.W.findObj
    rw[hc,Option.bind_some,q3,Option.bind_some]
    simp[q4,q5]
   exact zGI X I q0 q01 hf q6 q02 k
  cases d with
  | none=>exact go none ⟨h1,h2,h4,by rw[h3]; trivial⟩
  | some dx =>
   obtain⟨u,hu⟩:=h5 dx rfl
   exact go (some u) ⟨h1,h2,h4,by rw[h3]; exact hu⟩
def IsA(K:PySem.W.Frag)(H:Hp)(C:Addr)(y:V)(b:Bool):Prop:=(∃ D,y=.ref D/\PySem.W.kitOne K (.ref C) (.ref D)=some b)\/(∃ T,y=.ty T/\PySem.W.kitOne K (.ref C) (.type T)=some b)\/∃ (q:Addr) (ds:List Addr),y=.ref q/\SqT K H q (ds.map V.ref)/\PySem.W.kitAny K (.ref C) (ds.map Value.ref)=some b
def rIsX(K:PySem.W.Frag):List V->Hp->VK->Prop:=fun xs H Q=>∃ p C d y b,xs=[.ref p,y]/\H p=some (.ext (xφ p C d))/\(∀ dx,d=some dx->∃ fs,H dx=some (.xd fs))/\excKit K C=true/\IsA K H C y b/\Q (.bl b) H
theorem zD2:∀ {ds:List Addr} {its:List Value},Vals (ds.map V.ref) its->its=ds.map Value.ref
 | [],[],_=>rfl
 | [],_::_,h=>by cases h
 | d::ds,_,h=>by
  cases h with
  | cons a r=>rw[zD2 r]; cases a; rfl
theorem zG9{X:Cx}:CallR X (.builtin "isinstance") (rIsX X.K):=by
 intro pins s σ H xs us Q I r h
 obtain⟨p,C,d,y,b,rfl,e,ed,k,hy,q⟩:=h
 cases r with
 | cons r1 r =>
  cases r with
  | cons r2 r =>
   cases r
   cases r1
   have φ:xψ p C d s.heap:=⟨(show ObjOk X.prog X.w H s.heap p (.ext (xφ p C d)) from I.hok p _ e).1,fun dx z=>by obtain⟨fs,z⟩:=ed dx z; exact zBn (I.hok dx _ z)⟩
   rcases hy with ⟨D,rfl,e2⟩ | ⟨T,rfl,e2⟩ | ⟨tq,ds,rfl,e2,e3⟩
   ·cases r2
    exact PySem.W.kia_one (zBz k) I.kIn φ e2 (by intro z; cases z) fun tk=>⟨.bl b,H,I.tok tk,rfl,q⟩
   ·cases r2
    exact PySem.W.kia_one (zBz k) I.kIn φ e2 (by intro z; cases z) fun tk=>⟨.bl b,H,I.tok tk,rfl,q⟩
   ·cases r2
    obtain⟨its,rv,⟨o,h1,h2,n,h3⟩,_⟩:=I.tuple e2
    obtain⟨oc,od,oda,osl⟩:=o
    simp only at h2 h3
    subst h2 h3
    rw[zD2 rv]at h1
    exact PySem.W.kia_tup (zBz k) I.kIn φ h1 e3 (by intro z; cases z) fun tk=>⟨.bl b,H,I.tok tk,rfl,q⟩
end L2
namespace D
open PySem L2
def XKC(K:Fg)(cs:List Str)(mro:List (Str×List Str)):Bool:=mro.all fun q=>match PySem.W.nsIn K mainGlobals q.1 with
 | some (some (.ref C))=>excKit K C && PySem.W.kitOne K (.ref C) (.type "ValueError") == some true && cs.all fun d=>match PySem.W.nsIn K mainGlobals d with
  | some (some (.ref D))=>PySem.W.kitOne K (.ref C) (.ref D) == some (q.2.contains d)
  | _=>false
 | _=>false
theorem zFE{K:Fg}{cs:List Str}{mro:List (Str×List Str)}(h:XKC K cs mro=true){c:Str}{ms:List Str}(e:mro.lookup c=some ms):∃ C,PySem.W.nsIn K mainGlobals c=some (some (.ref C))/\excKit K C=true/\PySem.W.kitOne K (.ref C) (.type "ValueError")=some true /\
  ∀ d∈cs,∃ D,PySem.W.nsIn K mainGlobals d=some (some (.ref D))/\PySem.W.kitOne K (.ref C) (.ref D)=some (ms.contains d):=by
 have hm:(c,ms)∈mro:=PySem.mem_of_lookup e
 have:=List.all_eq_true.mp h _ hm
 dsimp only at this
 split at this
 ·rename_i C hC
  simp only[Bool.and_eq_true,beq_iff_eq]at this
  obtain⟨⟨a,b⟩,c'⟩:=this
  refine⟨C,hC,a,b,fun d hd=>?_⟩
  have:=List.all_eq_true.mp c' d hd
  split at this
  ·rename_i D hD
   exact⟨D,hD,beq_iff_eq.mp this⟩
  ·cases this
 ·cases this
def fnsOf:List T->Option (List Str)
 | []=>some []
 | .f d::r=>(fnsOf r).map fun ds=>d::ds
 | _=>none
def isXS(cs:List Str)(mro:List (Str×List Str)):En->List S->Option S:=fun _ as=>match as with
 | [.v (.x c fs),.v (.f d)]=>(mro.lookup c).bind fun ms=>if d∈cs then some (mkB (ms.contains d)) else none
 | [.v (.x c fs),.v (.a (.ty t))]=>if t="ValueError" then (mro.lookup c).map fun _=>mkB true else none
 | [.v (.x c fs),.v (.t ts)]=>(fnsOf ts).bind fun ds=>(mro.lookup c).bind fun ms=>if ∀ d∈ds,d∈cs then some (mkB (ds.any fun d=>ms.contains d)) else none
 | _=>none
theorem zGZ{K:Fg}{H:Hp}:∀ {ts:List T} {vs:List V} {ds:List Str},fnsOf ts=some ds->Ims K H vs ts->∃ as:List Addr,vs=as.map V.ref/\Paired (fun d (a:Addr)=>PySem.W.nsIn K mainGlobals d=some (some (.ref a))) ds as
 | [],vs,ds,e,h=>by cases e; unfold Ims at h; exact⟨[],h,.nil⟩
 | t::r,vs,ds,e,h=>by
  unfold fnsOf at e
  split at e
  ·rename_i h0; cases h0
  ·rename_i d r' h0
   cases h0
   obtain⟨ds',e1,e⟩:=zAA e
   cases e
   unfold Ims at h
   obtain⟨v,vr,rfl,h1,h2⟩:=h
   obtain⟨p,rfl,hp⟩:=h1.invf
   obtain⟨as,rfl,pr⟩:=zGZ e1 h2
   exact⟨p::as,rfl,.cons hp pr⟩
  ·cases e
theorem zE5{K:Fg}{C:Addr}{ms cs:List Str}(hk:∀ d∈cs,∃ D,PySem.W.nsIn K mainGlobals d=some (some (.ref D))/\PySem.W.kitOne K (.ref C) (.ref D)=some (ms.contains d)):∀ {ds:List Str} {as:List Addr},Paired (fun d (a:Addr)=>PySem.W.nsIn K mainGlobals d=some (some (.ref a))) ds as->(∀ d∈ds,d∈cs)->PySem.W.kitAny K (.ref C) (as.map Value.ref)=some (ds.any fun d=>ms.contains d)
 | _,_,.nil,_=>rfl
 | d::ds,a::as,.cons h r,hd=>by
  obtain⟨D,e1,e2⟩:=hk d (hd d List.mem_cons_self)
  rw[h]at e1
  cases e1
  rw[List.map_cons,List.any_cons]
  unfold PySem.W.kitAny
  rw[e2]
  cases hc:ms.contains d with
  | true=>rfl
  | false=>simpa using zE5 hk r fun x hx=>hd x (List.mem_cons_of_mem _ hx)
theorem zCV{K:Fg}{H:Hp}{v:V}{c:Str}{fs:List (Str×V)}{C:Addr}(h:Im K H v (.x c fs))(hC:PySem.W.nsIn K mainGlobals c=some (some (.ref C))):∃ p d,v=.ref p/\H p=some (.ext (xφ p C d))/\∀ dx,d=some dx->∃ fs,H dx=some (.xd fs):=by
 obtain⟨p,rfl,C',d,h1,h2,h3⟩:=h.invx
 rw[hC]at h1
 cases h1
 refine⟨p,d,rfl,h2,fun dx z=>?_⟩
 rcases h3 with ⟨rfl,_⟩ | ⟨dx',rfl,h4⟩
 ·cases z
 ·cases z; exact⟨fs,h4⟩
theorem zFu{K:Fg}{cs:List Str}{mro:List (Str×List Str)}(hx:XKC K cs mro=true):SimRs K (rIsX K) (isXS cs mro):=by
 intro C w Γ σ H vs as s Q R o e k
 unfold isXS at e
 split at e
 ·rename_i c fs d
  obtain⟨ms,e1,e⟩:=bind_some e
  split at e
  ·rename_i hd
   cases e
   obtain⟨v,u,rfl,o1,o2⟩:=soks2 o
   obtain⟨Cc,c1,c2,c3,c4⟩:=zFE hx e1
   obtain⟨p,dd,rfl,h1,h2⟩:=zCV (show Im K H v (.x c fs) from o1) c1
   obtain⟨q,rfl,hq⟩:=(show Im K H u (.f d) from o2).invf
   obtain⟨D,d1,d2⟩:=c4 d hd
   rw[hq]at d1
   cases d1
   exact⟨p,Cc,dd,_,_,rfl,h1,h2,c2,.inl ⟨q,rfl,d2⟩,k _ H R .refl SOk.atom trivial⟩
  ·cases e
 ·rename_i c fs t
  split at e
  ·rename_i ht
   subst ht
   obtain⟨ms,e1,e⟩:=zAA e
   cases e
   obtain⟨v,u,rfl,o1,o2⟩:=soks2 o
   obtain⟨Cc,c1,c2,c3,c4⟩:=zFE hx e1
   obtain⟨p,dd,rfl,h1,h2⟩:=zCV (show Im K H v (.x c fs) from o1) c1
   exact⟨p,Cc,dd,_,_,rfl,h1,h2,c2,.inr (.inl ⟨_,o2.inva,c3⟩),k _ H R .refl SOk.atom trivial⟩
  ·cases e
 ·rename_i c fs ts
  obtain⟨ds,e0,e⟩:=bind_some e
  obtain⟨ms,e1,e⟩:=bind_some e
  split at e
  ·rename_i hd
   cases e
   obtain⟨v,u,rfl,o1,o2⟩:=soks2 o
   obtain⟨Cc,c1,c2,c3,c4⟩:=zFE hx e1
   obtain⟨p,dd,rfl,h1,h2⟩:=zCV (show Im K H v (.x c fs) from o1) c1
   obtain⟨q,us,rfl,hq,hi⟩:=o2.invt
   obtain⟨ads,rfl,pr⟩:=zGZ e0 hi
   exact⟨p,Cc,dd,_,_,rfl,h1,h2,c2,.inr (.inr ⟨q,ads,rfl,hq.sq,zE5 c4 pr hd⟩),k _ H R .refl SOk.atom trivial⟩
  ·cases e
 ·cases e
end D
namespace D
open PySem L2
@[simp low] theorem zOK{α:Type}{b:Bool}{x y:α}:ifB b (x:=⟨x⟩) (y:=⟨y⟩)=if b=true then x else y:=rfl
@[simp low] theorem zNh{α:Type}{p:Option Nat}{k:Nat}{x y:α}:ifO p k x y=if p=some k then x else y:=rfl
@[simp low] theorem zOE{α:Type}{m k:Nat}{x y:α}:ifN m k x y=if m=k then x else y:=rfl
@[simp low] theorem zN3{α:Type}{k:Nat}{l:List Nat}{x y:α}:ifM k l x y=if k∈l then x else y:=rfl
end D
namespace L2
open PySem PySem.Spec PyProof.Rows
theorem zB5{prog:Program}{w:World}{A:Around}{E:Value->Shared->Prop}{h:Heap}
 {g:Array GenState} {d:Drawn} {t:Nat} {os:OsState} {nm q:Str} {C N:Addr} {bs bm bmB:List Value}
 {hdct:Bool} {sn:List Str} {sub:List Value} {ab:Bool} {col:Option Bool} {dd:Option Addr}
 {k0 k1 k2 k3 k5:Option Value} {B newId initId:String} {mN:Str->Option Value} {rest:List Value} {fI:Addr} {oI:Obj} {Q:PySem.Fin->Shared->Prop}
 (F:ExcBaseFacts B newId initId bmB) (T:OwnTail h bmB bm) (hbase:bm.contains (.type "BaseException")=true)
 (hC:h.get? C=some (excClassObj nm q C N bs bm hdct sn sub ab col dd k0 k1 k2 k3 k5 newId)) (hN:h.Ns N mN) (hi:mN (Str.ofString "__init__")=some (Value.ref fI)) (hf:h.get? fI=some oI) (hfc:oI.cls=Value.type "function")
 (hK:∀ (h':Heap) (e:Addr),h.MadeExcOf h' e (Value.ref C) rest->wpAny (model prog w) A (call (Value.ref fI) (Value.ref e::rest)) (fun r s'=>r=Value.none/\Q (Fin.done (Flow.ret (Value.ref e))) s') E { heap:=h',gens:=g,drawn:=d,toks:=t,os:=os })
 (hr:rest.length<=sizeLine:=by decide) :
  wpAny (model prog w) A (Builtin.«type.__call__» { pos:=Value.ref C::rest }) Q E { heap:=h,gens:=g,drawn:=d,toks:=t,os:=os }:=by
 have hB:bmB.contains (Value.type B)=true:=F.hasB
 unfold Builtin.«type.__call__»
 repeat (any_goals (first | assumption | wp_step))
 have e0:=F.entry
 refine codeAny_call_builtin_code (Code.quiet_builtin _ F.quiet) (wpAny_check_new_subU F hB T hC (codeAny_exc_new_subU F hB F T hC ?_ hr))
 dsimp only
 have hm:h.MadeExcOf ((h.push { cls:=Value.type "tuple",data:=Data.seq rest.toArray }).push { cls:=Value.ref C,data:=Data.fields #[Value.ref h.objs.size,Value.none,Value.none,Value.none,Value.bool false,Value.none] }) (h.objs.size+1) (.ref C) rest:=by
  have sz:(h.push { cls:=Value.type "tuple",data:=Data.seq rest.toArray }).objs.size=h.objs.size+1:=Heap.size_push ..
  refine⟨fun b o e=>Heap.get?_push_of_some _ (Heap.get?_push_of_some _ e),Heap.get?_none_of_le (Nat.le_succ _),h.objs.size,?_,Heap.get?_none_of_le (Nat.le_refl _),Heap.get?_push_of_some _ (Heap.get?_push_size _ rfl)⟩
  rw[← sz]
  exact Heap.get?_push_size _ rfl
 have hC':=hm.keeps _ _ hC
 have hN':=hN.keeps hm.keeps
 have hf':=hm.keeps _ _ hf
 have T':=T.keeps hm.keeps
 have hk:=hK _ _ hm
 obtain⟨tt,he,_,_⟩:=hm.there
 generalize (h.push { cls:=Value.type "tuple",data:=Data.seq rest.toArray }).push { cls:=Value.ref C,data:=Data.fields #[Value.ref h.objs.size,Value.none,Value.none,Value.none,Value.bool false,Value.none] }=h2 at *
 repeat (any_goals (first | assumption | wp_step))
 show wpAny (model prog w) A (isSubtype (.ref C) (.ref C)) _ E _
 unfold isSubtype
 repeat (any_goals (first | assumption | wp_step))
 show wpAny (model prog w) A (typeLookup (.ref C) (Str.ofString "__init__")) _ E _
 refine wpAny_typeLookup_tail hC' hN' T' F.mroIs F.init.lookup ?_
 rw[hi]
 dsimp only
 repeat (any_goals (first | assumption | wp_step))
 refine wpAny_bindSpecial_def hf' hfc ?_
 refine wpAny_bind (wpAny_mono hk (fun r s' hrr=>?_) (fun _ _ z=>z))
 obtain⟨rfl,hq⟩:=hrr
 repeat (any_goals (first | assumption | wp_step))
theorem zCj{prog:Program}{w:World}{A:Around}{E:Value->Shared->Prop}{h:Heap}
 {g:Array GenState} {d:Drawn} {t:Nat} {os:OsState} {nm q:Str} {C N:Addr} {bs bm bmB:List Value}
 {hdct:Bool} {sn:List Str} {sub:List Value} {ab:Bool} {col:Option Bool} {dd:Option Addr}
 {k0 k1 k2 k3 k5:Option Value} {B newId initId:String} {mN:Str->Option Value} {rest:List Value} {fI:Addr} {oI:Obj} {Q:Value->Shared->Prop}
 (F:ExcBaseFacts B newId initId bmB) (T:OwnTail h bmB bm) (hbase:bm.contains (.type "BaseException")=true)
 (hC:h.get? C=some (excClassObj nm q C N bs bm hdct sn sub ab col dd k0 k1 k2 k3 k5 newId)) (hN:h.Ns N mN) (hi:mN (Str.ofString "__init__")=some (Value.ref fI)) (hf:h.get? fI=some oI) (hfc:oI.cls=Value.type "function")
 (hK:∀ (h':Heap) (e:Addr),h.MadeExcOf h' e (Value.ref C) rest->wpAny (model prog w) (A.under (Code.builtin "type.__call__" { pos:=Value.ref C::rest })) (call (Value.ref fI) (Value.ref e::rest)) (fun r s'=>r=Value.none/\Q (Value.ref e) s') E { heap:=h',gens:=g,drawn:=d,toks:=t,os:=os })
 (hr:rest.length<=sizeLine:=by decide) :
  wpAny (model prog w) A (call (.ref C) rest) Q E { heap:=h,gens:=g,drawn:=d,toks:=t,os:=os }:=by
 refine wpAny_call (codeAny_of_tree ?_)
 repeat (any_goals (first | assumption | wp_step))
 show wpAny _ _ (typeLookup (.type "type") (Str.ofString "__call__")) _ _ _
 rw[show typeLookup (.type "type") (Str.ofString "__call__")=pure (some (.builtin "type.__call__")) from by rw[typeLookup_type,builtinLookup_eq_fast]; kernel_rfl]
 refine wpAny_pure ?_
 dsimp only
 unfold bindSpecial callAny.plainCallee
 repeat (any_goals (first | assumption | wp_step))
 refine⟨rfl,codeAny_call_builtin_code (Code.quiet_builtin _ (by decide +kernel)) ?_⟩
 show wpAny _ _ (checkBuiltinCall "type.__call__" { pos:=.ref C::rest }) _ _ _
 have go:codeAny (model prog w) A (Code.builtin "type.__call__" { pos:=.ref C::rest }) (fun r s'=>match r with | Except.ok (Flow.ret v)=>Q v s' | Except.ok _=>False | Except.error e=>E e s') { heap:=h,gens:=g,drawn:=d,toks:=t,os:=os }:=by
  refine codeAny_builtin PySem.F.entry_type_call ?_
  exact zB5 F T hbase hC hN hi hf hfc hK hr
 exact wpAny_check_type_call_sub hC go
def dropRefs:List Value->List Value
 | .ref _::l=>dropRefs l
 | l=>l
theorem zBG(self:Value):∀ {l:List Value},dropRefs l=veB->refuseLoop self "__setattr__" l=pure ()
 | .ref C::l,h=>by rw[refuseLoop_ref]; exact zBG self h
 | [],h=>by cases h
 | .none::l,h=>by cases h
 | .bool _::l,h=>by cases h
 | .int _ _::l,h=>by cases h
 | .float _ _::l,h=>by cases h
 | .str _ _::l,h=>by cases h
 | .bytes _ _::l,h=>by cases h
 | .builtin _::l,h=>by cases h
 | .type _::l,h=>by
  have e:Value.type _::l=veB:=h
  rw[e]; exact F.store_ValueError.passes self
 | .notImplemented::l,h=>by cases h
 | .ellipsis::l,h=>by cases h
open PySem.W in
theorem zIn{K:Frag}{prog:Program}{w:World}{A:Around}{E:Value->Shared->Prop}{h:Heap}{g:Array GenState}{d:Drawn}{t:Nat}{os:OsState}{x C:Addr}{ox:Obj}{name:Str}{v:Value}{mA:Str->Option Value}{ns:List Str}{cd:ClassData}{Q:Unit->Shared->Prop}
  (X:K.In h) (hx:h.get? x=some ox) (hc:ox.cls=.ref C) (hnc:notCls ox=true) (hdx:(ox.dict=none/\∀ n,mA n=none)\/∃ dx,ox.dict=some dx/\dx≠x/\h.Ns1 dx mA)
  (q1:findIn K (.ref C) "__setattr__"=some (some (.builtin "object.__setattr__"))) (q2:findIn K (.ref C) name=some none) (q3:clsIn K C=some cd) (q4:dropRefs cd.mro=veB) (q5:cd.hasDict=true) (q6:subIn K (.ref C) (.type "object")=some true)
  (hw:Within mA ns) (hsz:ns.length<=1000)
  (hq:∀ h' tk' dx,(ox.dict=some dx\/(ox.dict=none/\h.get? dx=none))->h'.get? x=some { ox with dict:=some dx }->dx≠x->h'.Ns1 dx (fun y=>if y=name then some v else mA y)->(∀ b o,b≠x->b≠dx->h.get? b=some o->h'.get? b=some o)->Q () ⟨h',g,d,tk',os⟩) :
  wpAny (model prog w) A (setAttr (.ref x) name v) Q E ⟨h,g,d,t,os⟩:=by
 have L0:Looks (model prog w) h (typeOf (.ref x)) (.ref C):=hc ▸ (Looks.ld hx).andThen .now
 have L1:=looks_findIn (M:=model prog w) X q1
 have L2:=looks_findIn (M:=model prog w) X q2
 have L3:=looks_subIn (M:=model prog w) X q6
 have L4:=looks_clsIn (M:=model prog w) X q3
 have f3:=F.store_ValueError.slot.bind (.ref x)
 unfold setAttr callSpecial? specialOf
 repeat (any_goals (first | assumption | with_reducible refine L0.at ?_ | with_reducible refine L1.at ?_ | wp_step))
 refine codeAny_call_builtin F.store_ValueError.slot.plain F.store_ValueError.entry ?_
 have hk:builtinKind "object.__setattr__"=some .slot:=F.store_ValueError.kind
 have hsplit:splitId "object.__setattr__"=some ("object","__setattr__"):=F.store_ValueError.split
 have ha:=F.store_ValueError.args (.ref x) (.str name t) v
 simp only[checkBuiltinCall,hk,hsplit]
 unfold isInstance
 dsimp only[List.cons_append,List.nil_append]
 refine wpAny_bind (wpAny_bind (L0.at (L3.at ?_)))
 simp only[Bool.not_true,Bool.false_eq_true,if_false]
 have hpass:=zBG (.ref x) q4
 repeat (any_goals (first | assumption | with_reducible refine L0.at ?_ | with_reducible refine L2.at ?_ | with_reducible refine L4.at ?_ | rw[refuse_eq] | rw[hpass] | wp_step))
 rw[hc]
 refine wpAny_bind (L4.at ?_)
 simp only[q5,Bool.not_true,Bool.false_eq_true,if_false]
 obtain⟨oc,odc,oda,osl⟩:=ox
 dsimp only at hc hnc hdx hq ⊢
 subst hc
 rcases hdx with ⟨hdn,hmA⟩ | ⟨dx,hde,hne,hns⟩
 ·subst hdn
  dsimp only
  have hxs:h.objs.size≠x:=Nat.ne_of_gt (Heap.lt_size hx)
  have hx1:=Heap.get?_push_of_some { cls:=Value.type "dict",data:=Data.dict #[] } hx
  have hnd:∀ c,oda≠.cls c:=fun c z=>by rw[z]at hnc; cases hnc
  have fr:(Obj.mk (Value.ref C) (some h.objs.size) oda osl).isFreed=false:=by
   have:=(Heap.get?_some_iff.mp hx).2
   cases oda <;> first | rfl | exact this
  have hD:((h.push { cls:=Value.type "dict",data:=Data.dict #[] }).update x fun o=>{ cls:=o.cls,dict:=some h.objs.size,data:=o.data,slots:=o.slots }).get? h.objs.size=some { cls:=Value.type "dict",data:=Data.dict #[] } :=
   (Heap.get?_update_other _ _ (Ne.symm hxs)).trans (Heap.get?_push_size h rfl)
  have hN0:=Heap.Ns1.of_empty (⟨_,#[],_,hD,rfl,fun e he=>absurd he (by simp),fun _=>rfl⟩:Heap.Ns _ h.objs.size fun _=>none)
  have hX2:=Heap.get?_update_self (fun o=>{ cls:=o.cls,dict:=some h.objs.size,data:=o.data,slots:=o.slots }) hx1 fr
  have kp:∀ b o,b≠x->h.get? b=some o->((h.push { cls:=Value.type "dict",data:=Data.dict #[] }).update x fun o=>{ cls:=o.cls,dict:=some h.objs.size,data:=o.data,slots:=o.slots }).get? b=some o:=fun b o n e=>(Heap.get?_update_other _ _ (Ne.symm n)).trans (Heap.get?_push_of_some _ e)
  rw[if_neg (by simp[typeHasDict])]
  split
  ·rename_i c; exact absurd rfl (hnd c)
  ·refine wpAny_bind (wpAny_alloc' (wpAny_bind (wpAny_update' hx1 (wpAny_pure ?_))))
   show wpAny _ _ (Builtin.ObjectAttr.storeInDict h.objs.size (.str name t) name v) _ _ _
   unfold Builtin.ObjectAttr.storeInDict Builtin.ObjectAttr.newKeyGuard
   refine wpAny_bind (wpAny_pure (wpAny_bind (wpAny_nsSet1 hN0 fun h2 hn2 hs2=>?_)))
   obtain⟨oD,eD,pD,gD,dD,lD⟩:=hn2.count (Within.cons name v Within.nil)
   refine wpAny_bind (wpAny_lookBehind gD (by rw[dD]; exact pastItsLine_dict (Nat.le_trans lD (by rw[List.length_cons,List.length_nil,sizeLine_eq]; omega))) ?_)
   wp_walk
   obtain⟨o',es,ep,r1,r2,r3,r4,r5⟩:=hn2
   exact hq h2 _ h.objs.size (.inr ⟨rfl,Heap.get?_none_of_le (Nat.le_refl _)⟩) ((hs2.2 x (Ne.symm hxs)).trans hX2) hxs ⟨o',es,ep,r1,r2,r3,r4,fun y=>by rw[r5 y]; by_cases hy:y=name <;> simp[hy,hmA]⟩ fun b o n1 n2 e=>(hs2.2 b n2).trans (kp b o n1 e)
 ·subst hde
  dsimp only
  refine wpAny_pure ?_
  show wpAny _ _ (Builtin.ObjectAttr.storeInDict dx (.str name t) name v) _ _ _
  unfold Builtin.ObjectAttr.storeInDict Builtin.ObjectAttr.newKeyGuard
  refine wpAny_bind (wpAny_pure (wpAny_bind (wpAny_nsSet1 hns fun h2 hn2 hs2=>?_)))
  obtain⟨oD,eD,pD,gD,dD,lD⟩:=hn2.count (Within.cons name v hw)
  refine wpAny_bind (wpAny_lookBehind gD (by rw[dD]; exact pastItsLine_dict (Nat.le_trans lD (by rw[List.length_cons,sizeLine_eq]; omega))) ?_)
  wp_walk
  exact hq h2 _ dx (.inl rfl) ((hs2.2 x (Ne.symm hne)).trans hx) hne hn2 fun b o n1 n2 e=>(hs2.2 b n2).trans e
open PySem.W in
theorem zH7{K:Frag}{prog:Program}{w:World}{A:Around}{E:Value->Shared->Prop}{h:Heap}{g:Array GenState}{d:Drawn}{t:Nat}{os:OsState}{x C dx:Addr}{ox:Obj}{name:Str}{v:Value}{mA:Str->Option Value}{cd:ClassData}{ex:Bool}{Q:Value->Shared->Prop}
  (X:K.In h) (hx:h.get? x=some ox) (hc:ox.cls=.ref C) (hnc:notCls ox=true) (hde:ox.dict=some dx) (hns:h.Ns1 dx mA) (hv:mA name=some v)
  (q0:findIn K (.ref C) "__getattribute__"=some (some (.builtin "BaseException.__getattribute__"))) (q01:findIn K (.ref C) "__getattr__"=some none) (q2:findIn K (.ref C) name=some none) (q3:clsIn K C=some cd) (q5:cd.hasDict=true) (q6:subIn K (.ref C) (.type "BaseException")=some true)
  (hh:handedOut v=pure v) (hq:Q v ⟨h,g,d,t+1,os⟩):wpAny (model prog w) A (getAttr (.ref x) name ex) Q E ⟨h,g,d,t,os⟩:=by
 have L0:Looks (model prog w) h (typeOf (.ref x)) (.ref C):=hc ▸ (Looks.ld hx).andThen .now
 have L1:=looks_findIn (M:=model prog w) X q0
 have L2:=looks_findIn (M:=model prog w) X q01
 have L3:=looks_subIn (M:=model prog w) X q6
 have L4:=looks_findIn (M:=model prog w) X q2
 have L5:=looks_clsIn (M:=model prog w) X q3
 have f3:=F.excAttr_ValueError.ga.bind (.ref x)
 have hx1:(onTheHeap (Value.ref C) && Value.builtin "BaseException.__getattribute__" == Value.builtin "object.__getattribute__")=false:=by
  rw[show (Value.builtin "BaseException.__getattribute__" == Value.builtin "object.__getattribute__")=false by decide +kernel]; rfl
 unfold getAttr getAttrBy
 refine wpAny_bind (wpAny_mkText (wpAny_holding (wpAny_bind (L0.at (wpAny_bind (L1.at ?_))))))
 dsimp only
 rw[if_neg (by rw[hx1]; decide)]
 unfold getAttrByItsOwn hookBefore
 refine wpAny_bind ?_
 rw[if_pos (show onTheHeap (Value.ref C)=true from rfl)]
 refine L2.at ?_
 refine wpAny_bind (wpAny_attempt (wpAny_holding ?_))
 unfold callGetattribute
 rw[if_neg (by rw[show onTheHeap (Value.builtin "BaseException.__getattribute__")=false from rfl]; simp)]
 repeat (any_goals (first | assumption | wp_step))
 refine codeAny_call_builtin F.excAttr_ValueError.ga.plain F.entry_bexc_ga ?_
 have hk:builtinKind "BaseException.__getattribute__"=some .slot:=by decide +kernel
 have hsplit:splitId "BaseException.__getattribute__"=some ("BaseException","__getattribute__"):=by decide +kernel
 simp only[checkBuiltinCall,hk,hsplit]
 unfold isInstance
 have ha:=F.args_bexc_ga (.ref x) (.str name t)
 dsimp only[List.cons_append,List.nil_append]
 refine wpAny_bind (wpAny_bind (L0.at (L3.at ?_)))
 simp only[Bool.not_true,Bool.false_eq_true,if_false]
 repeat (first | assumption | with_reducible refine L0.at ?_ | with_reducible refine L4.at ?_ | with_reducible refine L5.at ?_ | wp_step)
 obtain⟨oc,odc,oda,osl⟩:=ox
 dsimp only at hc hnc hde ⊢
 subst hc hde
 split
 ·rename_i c; cases hnc
 ·unfold instanceDict
  have hn1:=hns.ns
  repeat (first | with_reducible refine wpAny_loadPart_at hx ?_ | with_reducible refine L5.at ?_ | (with_reducible refine wpAny_nsGet hn1 ?_; rw[hv]) | wp_step)
  exact hq
abbrev xδ(x C:Addr)(d:Option Addr)(da:Data):Heap->Prop:=fun h=>∃ o,h.get? x=some o/\o.cls=.ref C/\o.dict=d/\o.data=da
def setKit(K:PySem.W.Frag)(C:Addr)(ns:List Str):Bool:=PySem.W.findIn K (.ref C) "__setattr__" == some (some (.builtin "object.__setattr__")) && PySem.W.subIn K (.ref C) (.type "object") == some true &&
 (match PySem.W.clsIn K C with
  | some cd=>decide (dropRefs cd.mro=veB) && cd.hasDict
  | none=>false) && ns.all fun n=>PySem.W.findIn K (.ref C) n == some none
theorem zF4{K:PySem.W.Frag}{C:Addr}{ns:List Str}{n:Str}(h:setKit K C ns=true)(hn:n∈ns):PySem.W.findIn K (.ref C) "__setattr__"=some (some (.builtin "object.__setattr__"))/\PySem.W.subIn K (.ref C) (.type "object")=some true /\
  PySem.W.findIn K (.ref C) n=some none/\∃ cd,PySem.W.clsIn K C=some cd/\dropRefs cd.mro=veB/\cd.hasDict=true:=by
 unfold setKit at h
 simp only[Bool.and_eq_true,beq_iff_eq]at h
 obtain⟨⟨⟨h1,h2⟩,h3⟩,h4⟩:=h
 refine⟨h1,h2,by simpa using List.all_eq_true.mp h4 n hn,?_⟩
 split at h3
 ·rename_i cd e
  rw[Bool.and_eq_true]at h3
  exact⟨cd,e,of_decide_eq_true h3.1,h3.2⟩
 ·cases h3
theorem zCK{α:Type}:∀ {fs:List (Str×α)} {y:Str},fs.lookup y≠none->y∈fs.map (·.1)
 | [],_,h=>absurd rfl h
 | (n,v)::r,y,h=>by
  by_cases e:y=n
  ·rw[e]; simp
  ·have:(y == n)=false:=by simpa using e
   rw[List.lookup_cons,this]at h
   exact List.mem_cons_of_mem _ (zCK h)
section
variable {X:Cx}{pins:List (Addr×Obj)}{σ:St}{H:Hp}{s:Shared}{x C:Addr}{d:Option Addr}{da:Data}{fs:List (Str×V)}{name:Str}{ns:List Str}{v:V}{u:Value}{Q:Unit->Shared->Prop}
theorem Inv.setX(I:Inv X pins σ H s)(hx:H x=some (.ext (xδ x C d da)))(hda:∃ vs,da=.fields vs)(hd:(d=none/\fs=[])\/∃ dx,d=some dx/\dx≠x/\H dx=some (.xd fs))(q:setKit X.K C ns=true)(hn:name∈ns)(rv:RelV v u)(hl:fs.length<=900)
  (k:∀ s' H' dx,Inv X pins σ H' s'->(d=some dx\/(d=none/\H dx=none))->dx≠x->(∀ b o,b≠x->b≠dx->H b=some o->H' b=some o)->H' x=some (.ext (xδ x C (some dx) da))->H' dx=some (.xd ((name,v)::fs))->Q () s'):wpAny (model X.prog X.w) X.A (setAttr (.ref x) name u) Q X.xe s:=by
 obtain⟨vs,hda⟩:=hda
 obtain⟨q1,q2,q3,cd,q4,q5,q6⟩:=zF4 q hn
 obtain⟨⟨ox,hox,hc,hdc,hdat⟩,_,_⟩:=(show ObjOk X.prog X.w H s.heap x (.ext (xδ x C d da)) from I.hok x _ hx)
 have hnc:PySem.W.notCls ox=true:=by unfold PySem.W.notCls; rw[hdat,hda]
 obtain⟨mA,hmA,hrel⟩:∃ mA:Str->Option Value,((ox.dict=none/\∀ n,mA n=none)\/∃ dx,ox.dict=some dx/\dx≠x/\s.heap.Ns1 dx mA)/\∀ f,RelO (fs.lookup f) (mA f):=by
  rcases hd with ⟨rfl,rfl⟩ | ⟨dx,rfl,hne,hxd⟩
  ·exact⟨fun _=>none,.inl ⟨hdc,fun _=>rfl⟩,fun f=>trivial⟩
  ·obtain⟨mA,n1,r1⟩:=(show ObjOk X.prog X.w H s.heap dx (.xd fs) from I.hok dx _ hxd)
   exact⟨mA,.inr ⟨dx,hdc,hne,n1⟩,r1⟩
 have hw:Within mA (fs.map (·.1)):=fun y hy=>by
  refine zCK fun z=>hy ?_
  have:=hrel y
  rw[z]at this
  cases e:mA y with
  | none=>rfl
  | some _=>rw[e]at this; exact this.elim
 obtain⟨h,g,dr,t,os⟩:=s
 refine zIn I.kIn hox hc hnc hmA q1 q3 q4 q5 q6 q2 hw (by rw[List.length_map]; omega) fun h' tk dx c1 c2 c3 c4 c5=>?_
 dsimp only at hox hmA c1 c2 c4 c5
 have dxs:d=some dx\/(d=none/\h.get? dx=none):=by rw[← hdc]; exact c1
 have dxH:d=some dx\/(d=none/\H dx=none):=dxs.imp id fun ⟨a,b⟩=>⟨a,zAg I.hok b⟩
 have xdT:∀ {o:HO},H dx=some o->o=.xd fs:=fun {o} e=>by
  rcases hd with ⟨rfl,rfl⟩ | ⟨dx',rfl,hne,hxd⟩
  ·rcases dxH with z | ⟨_,z⟩
   ·cases z
   ·rw[z]at e; cases e
  ·rcases dxH with z | ⟨z,_⟩
   ·cases z; rw[hxd]at e; cases e; rfl
   ·cases z
 have nd:∀ {b:Addr} {o:Obj},h.get? b=some o->H b=none->b≠dx:=fun {b o} e n z=>by
  subst z
  rcases dxs with z | ⟨_,z⟩
  ·rcases hd with ⟨rfl,_⟩ | ⟨dx',rfl,_,hxd⟩
   ·cases z
   ·cases z; rw[hxd]at n; cases n
  ·rw[z]at e; cases e
 have nx:∀ {b:Addr},H b=none->b≠x:=fun {b} n z=>by rw[z,hx]at n; cases n
 let H':Hp:=upd (upd H x (.ext (xδ x C (some dx) da))) dx (.xd ((name,v)::fs))
 have oth:∀ b o,b≠x->b≠dx->H b=some o->H' b=some o:=fun b o n1 n2 e=>by show upd _ _ _ b=_; rw[zAB n2,zAB n1]; exact e
 have atx:H' x=some (.ext (xδ x C (some dx) da)):=by show upd _ _ _ x=_; rw[zAB (Ne.symm c3),zAF]
 have atd:H' dx=some (.xd ((name,v)::fs)):=zAF
 have kind:∀ {b:Addr} {o:HO},H b=some o->(∀ φ,o≠.ext φ)->(∀ l,o≠.xd l)->H' b=some o:=fun {b o} e n1 n2=>oth b o (fun z=>by rw[z,hx]at e; exact n1 _ (Option.some.inj e).symm) (fun z=>n2 fs (xdT (z ▸ e))) e
 refine k _ H' dx (I.un (t':=tk) { keep:=fun b o e n hb hx'=>c5 b o (nx n) (nd e n) e,slot:=fun b o e n hb hx'=>⟨o.slots,c5 b o (nx n) (nd e n) e⟩,free:=fun b o e n hx'=>?_,there:=fun b o e hx'=>?_,tups:=fun b xs e=>kind e (fun _ z=>by cases z) (fun _ z=>by cases z),frzs:=fun b o w e=>kind e (fun _ z=>by cases z) (fun _ z=>by cases z),tbls:=fun b ps e=>⟨#[],by rw[Array.append_empty]; exact kind e (fun _ z=>by cases z) fun _ z=>by cases z⟩ } fun b o e=>?_) dxH c3 oth atx atd
 ·show upd _ _ _ b=none; rw[zAB (nd e n),zAB (nx n)]; exact n
 ·by_cases z1:b=x
  ·rw[z1]; exact⟨_,c2⟩
  ·by_cases z2:b=dx
   ·rw[z2]
    obtain⟨o',es,ep,r,_⟩:=c4
    exact⟨o',r⟩
   ·exact⟨o,c5 b o z1 z2 e⟩
 ·by_cases z2:b=dx
  ·subst z2
   rw[atd]at e; cases e
   refine⟨_,c4,fun f=>?_⟩
   by_cases hf:f=name
   ·subst hf
    have:(f == f)=true:=by simp
    rw[List.lookup_cons,this,if_pos rfl]; exact rv
   ·have:(f == name)=false:=by simpa using hf
    rw[List.lookup_cons,this,if_neg hf]; exact hrel f
  ·by_cases z1:b=x
   ·subst z1
    rw[atx]at e; cases e
    exact⟨⟨_,c2,hc,rfl,hdat⟩,⟨_,c2⟩,fun h1 h2 ⟨o,r1,r2⟩ kk=>⟨o,kk o r1,r2⟩⟩
   ·have e':H b=some o:=by
     have e0:upd (upd H x (.ext (xδ x C (some dx) da))) dx (.xd ((name,v)::fs)) b=some o:=e
     rw[zAB z2,zAB z1]at e0; exact e0
    refine (I.hok b o e').stay (fun c w hc' ec=>c5 c w ?_ ?_ ec) (fun c ec=>kind ec (fun _ z=>by cases z) fun _ z=>by cases z) (fun c xs ec=>kind ec (fun _ z=>by first | cases z | (cases xs <;> cases z)) fun _ z=>by first | cases z | (cases xs <;> cases z))
    ·rcases hc' with rfl | hc'
     ·exact z1
     ·intro z; rw[z,hx]at hc'; cases hc'
    ·rcases hc' with rfl | hc'
     ·exact z2
     ·intro z; rw[z]at hc'; cases xdT hc'
end
def sSetX(C:Addr)(i:Nat)(name:Str):TS:=fun D σ H=>∃ x v d da fs,σ[0]?=some (some (.ref x))/\σ[i]?=some (some v)/\H x=some (.ext (xδ x C d da))/\(∃ vs,da=.fields vs)/\((d=none/\fs=[])\/∃ dx,d=some dx/\dx≠x/\H dx=some (.xd fs))/\fs.length<=900 /\
 ∀ H' dx,(d=some dx\/(d=none/\H dx=none))->dx≠x->(∀ b o,b≠x->b≠dx->H b=some o->H' b=some o)->H' x=some (.ext (xδ x C (some dx) da))->H' dx=some (.xd ((name,v)::fs))->D.nx σ H'
theorem zI1{X:Cx}{self y name:Str}{p0 p1 p2 pos:Pos}{i:Nat}{C:Addr}{ns:List Str}(h0:PE X (.Name self p0) (tVar 0))(hi:PE X (.Name y p1) (tVar i))(q:setKit X.K C ns=true)(hn:name∈ns)
  (hs:swapsWith (.Name y p1) (some (.Attribute (.Name self p0) name p2)) pos.line X.env=pure false):PS X (.Assign [.Attribute (.Name self p0) name p2] (.Name y p1) pos) (sSetX C i name):=by
 intro pins s σ H D I h
 obtain⟨x,v,d,da,fs,e0,ei,hx,hda,hd,hl,k⟩:=h
 refine plainObj_wpAny_Assign_Attribute (thn (hi pins s σ H (fun w H1=>w=v/\H1=H) I ⟨v,ei,rfl,rfl⟩) fun u s1 ⟨w,H1,I1,rw1,z1,z2⟩=>?_) hs
 subst z1 z2
 refine thn (h0 pins s1 σ H1 (fun w H2=>w=.ref x/\H2=H1) I1 ⟨_,e0,rfl,rfl⟩) fun ov s2 ⟨w2,H2,I2,rw2,z1,z2⟩=>?_
 subst z1 z2
 cases rw2
 exact I2.setX hx hda hd q hn rw1 hl fun s' H' dx I' c1 c2 c3 c4 c5=>⟨σ,H',I',k H' dx c1 c2 c3 c4 c5⟩
def spI(C:Addr)(names:List Str):Sp:=fun vs H Q _=>∃ x args da,vs=.ref x::args/\args.length=names.length/\(∃ fl,da=.fields fl)/\H x=some (.ext (xδ x C none da)) /\
 ∀ dx H',H dx=none->dx≠x->(∀ b o,b≠x->H b=some o->H' b=some o)->H' x=some (.ext (xδ x C (some dx) da))->H' dx=some (.xd (names.zip args).reverse)->Q .non H'
section
variable {P:Program}{w:World}{K:PySem.W.Frag}{mg:Str->Option Value}{base:Heap}{k:Nat}{qual self a1 a2 f1 f2:Str}{st:Stmt}{f C:Addr}{fd:FuncData}{p0 p1 p2 p3 p4 p5 p6 p7:Pos}
theorem zEq{N ps:List Str}{sc:Scope}{x:Str}(S:FnScope N ps sc)(h:x∈ps):Vis sc x:=(S.par x h).imp id .inl
theorem zHZ(F:Fun K "__init__" qual st f fd)(S:FnScope [self,a1] [self,a1] (defScope st))(hb:defBody st=[.Assign [.Attribute (.Name self p0) f1 p1] (.Name a1 p2) p3])(q:setKit K C [f1]=true)
  (d0:(self == ("__debug__":Str))=false) (d1:(a1 == ("__debug__":Str))=false) (c0:(self == ("__classdict__":Str))=false) (c1:(a1 == ("__classdict__":Str))=false):FnOk P w K mg base CX0 (k+1) f fd [self,a1] (spI C [f1]):=by
 refine F.ok S (fun vs H Q E ⟨x,args,da,e,hl,_⟩=>by rw[e]; simp at hl ⊢; exact hl) fun cdv A outer s H vs Q E hr h=>?_
 obtain⟨x,args,da,rfl,hl,hda,hx,hq⟩:=h
 obtain⟨v,rfl⟩:=List.length_eq_one_iff.mp hl
 rw[hb]
 refine⟨_,zCk (zI1 (i:=1) (C:=C) (ns:=[f1]) (zB4 rfl (zEq S (by simp)) d0 c0) (zB4 rfl (zEq S (by simp)) d1 c1) q (by simp) rfl),x,v,none,da,[],rfl,rfl,hx,hda,.inl ⟨rfl,rfl⟩,by simp,fun H' dx z1 z2 z3 z4 z5=>?_⟩
 have hn:H dx=none:=by rcases z1 with z | ⟨_,z⟩; cases z; exact z
 exact hq dx H' hn z2 (fun b o n e=>z3 b o n (fun z=>by rw[z,hn]at e; cases e) e) z4 z5
end
def excI(K:PySem.W.Frag)(C fI:Addr):Bool:=(match K.lookup C with
 | some ⟨.type "type",_,.cls cd,sl⟩=>(match cd.mro,sl.toList with
  | .ref D::bm,[_,_,_,_,some (.builtin n),_]=>D == C && (n == "ValueError.__new__" && (!cd.hasDel && (PySem.W.tailIn K veB bm && (PySem.W.nsOkIn K cd.ns && PySem.W.nsIn K cd.ns "__init__" == some (some (.ref fI))))))
  | _,_=>false)
 | _=>false) && (match K.lookup fI with
 | some o=>o.cls == .type "function"
 | none=>false) && PySem.W.subIn K (.ref C) (.type "BaseException") == some true
theorem zJ4{K:PySem.W.Frag}{h:Heap}{N:Addr}{m:Str->Option Value}{n:Str}{v:Value}(X:K.In h)(G:h.Ns N m)(e:PySem.W.nsIn K N n=some (some v)):m n=some v:=by
 obtain⟨o,es,ep,ho,hd,_,hf⟩:=G
 unfold PySem.W.nsIn at e
 split at e
 ·rename_i hq
  have z:=(X _ _ hq).symm.trans ho
  cases z; cases hd
  split at e
  ·rename_i en he
   cases e
   rw[← hf,show nsFind _ n=_ from rfl]
   unfold nsFind findBy
   rw[← Array.find?_toList,he]; rfl
  ·split at e <;> cases e
 ·cases e
theorem zE4{K:PySem.W.Frag}{h:Heap}{C fI:Addr}(X:K.In h)(q:excI K C fI=true) :
  (∃ bm N nm qn bs hdct sn sub ab col dd k0 k1 k2 k3 k5 mN,h.get? C=some (excClassObj nm qn C N bs bm hdct sn sub ab col dd k0 k1 k2 k3 k5 "ValueError.__new__")/\h.Ns N mN/\mN "__init__"=some (.ref fI)/\OwnTail h veB bm)/\(∃ oI,h.get? fI=some oI/\oI.cls=.type "function")/\PySem.W.subIn K (.ref C) (.type "BaseException")=some true:=by
 unfold excI at q
 simp only[Bool.and_eq_true,beq_iff_eq]at q
 obtain⟨⟨q,q2⟩,q3⟩:=q
 refine⟨?_,?_,q3⟩
 ·split at q
  ·rename_i dd cdat sl ho
   split at q
   ·rename_i D bm k0 k1 k2 k3 n k5 hm hs
    simp only[Bool.and_eq_true,beq_iff_eq,Bool.not_eq_true']at q
    obtain⟨rfl,rfl,hdel,ht,hok,hni⟩:=q
    obtain⟨nm,bs,mro,ns,qn,hd,sn,sub,ab,col,del⟩:=cdat
    dsimp only at hm hdel hok hni
    subst hm hdel
    obtain rfl:sl=#[k0,k1,k2,k3,some (.builtin "ValueError.__new__"),k5]:=by
     obtain⟨l⟩:=sl
     simp only at hs
     rw[hs]
    have G:=Heap.Ns.of_isNs (PySem.W.isNs_of_in X hok)
    exact⟨bm,ns,nm,qn,bs,hd,sn,sub,ab,col,dd,k0,k1,k2,k3,k5,_,X _ _ ho,G,zJ4 X G hni,PySem.W.tail_of_in X ht⟩
   ·cases q
  ·cases q
 ·split at q2
  ·rename_i o ho; exact⟨o,X _ _ ho,beq_iff_eq.mp q2⟩
  ·cases q2
abbrev excD(t:Addr):Data:=.fields #[.ref t,.none,.none,.none,.bool false,.none]
section
variable {X:Cx}{pins:List (Addr×Obj)}{σ:St}{H:Hp}{s:Shared}{C fI:Addr}{fd:FuncData}{ps names:List Str}{k:Nat}{vs:List V}{us:List Value}{Q:Value->Shared->Prop}
theorem zG4(I:Inv X pins σ H s)(hex:X.ex=[])(q:excI X.K C fI=true)(Fi:FnOk X.prog X.w X.K X.mg X.base CX0 k fI fd ps (spI C names))(hbd:Binds X.K fd ps [])(hr:Room (k+1) X.A)(rv:Vals vs us)(hl:vs.length=names.length)(hl2:names.length<=900)(hlp:ps.length=names.length+1)
  (kont:∀ e dx t s' H',Inv X pins σ H' s'->(∀ b o,H b=some o->H' b=some o)->H e=none->H dx=none->dx≠e->X.s₀.heap.get? e=none->H' e=some (.ext (xδ e C (some dx) (excD t)))->H' dx=some (.xd (names.zip vs).reverse)->Q (.ref e) s'):wpAny (model X.prog X.w) X.A (call (.ref C) us) Q X.xe s:=by
 obtain⟨⟨bm,N,nm,qn,bs,hdct,sn,sub,ab,col,dd,k0,k1,k2,k3,k5,mN,hC,hN,hi,T⟩,⟨oI,hoI,hcI⟩,_⟩:=zE4 I.kIn q
 obtain⟨h,g,dr,t,os⟩:=s
 have hul:=rv.length
 refine zCj PySem.F.excBase_ValueError T (T.hasType (by decide)) hC hN hi hoI hcI (fun h' e hm=>?_) (Nat.le_trans (by omega:us.length<=900) (by decide))
 obtain⟨tt,he,_,_⟩:=hm.there
 have new:=hm.new
 have hHe:H e=none:=zAg I.hok new
 have a0:X.s₀.heap.get? e=none:=by
  cases q0:X.s₀.heap.get? e with
  | none=>rfl
  | some o=>obtain⟨o',q1⟩:=I.base.there e o q0 (by rw[hex]; exact fun z=>nomatch z); rw[show h.get? e=none from new]at q1; cases q1
 have I1:Inv X pins σ (upd H e (.ext (xδ e C none (excD tt)))) ⟨h',g,dr,t,os⟩:=(I.kept (t':=t) hm.keeps).track hHe a0 (fun z=>by
   obtain⟨m,⟨o,_,_,ho,_⟩,_⟩:=I.loc
   rw[z,show h.get? e=none from new]at ho; cases ho) (fun z c hc q=>by
   obtain⟨v,o,ho,_⟩:=I.cell z c hc
   rw[q,show h.get? e=none from new]at ho; cases ho) (fun p hp q=>by
   have:=(I.pin p hp).1
   rw[q,show h.get? e=none from new]at this; cases this) ⟨⟨_,he,rfl,rfl,rfl⟩,⟨_,he⟩,fun h1 h2 ⟨o,r1,r2⟩ kk=>⟨o,kk o r1,r2⟩⟩
 have hrA:Room k (X.A.under (Code.builtin "type.__call__" { pos:=.ref C::us })):=⟨hr.hd,by rw[zFL]; have:=hr.dp; omega,by rw[zE8]; have:=hr.un; omega,by
  have e:(X.A.under (Code.builtin "type.__call__" { pos:=.ref C::us })).guards=X.A.guards:=by first | rfl | simp[Around.under,Code.guards,Code.isGuard,guardIds,pushGuards]
  rw[e]; exact hr.gd⟩
 have hfrA:(X.A.under (Code.builtin "type.__call__" { pos:=.ref C::us })).frames=X.A.frames:=by first | rfl | simp[Around.under,Code.envs,Code.isFrame,pushEnvs]
 generalize X.A.under (Code.builtin "type.__call__" { pos:=.ref C::us })=A' at *
 have e0:Env0 X.prog X.w X.K X.mg X.base A' X.stack ⟨h',g,dr,t,os⟩ (upd H e (.ext (xδ e C none (excD tt)))):=let z:=I1.env0; ⟨hfrA.trans z.frames,z.mod,z.bs,z.bsz,z.funs,z.frf,z.hok,z.bare⟩
 have lenA:((.ref e::us)++([]:List Value)).length=ps.length:=by rw[List.append_nil,List.length_cons]; omega
 refine wpAny_call (codeAny_mono (Fi.run A' X.stack ⟨h',g,dr,t,os⟩ (upd H e (.ext (xδ e C none (excD tt)))) ⟨.ref e::us,[]⟩ ((.ref e::us)++[]) (.ref e::vs) (fun v H'=>v=.non/\∃ dx,H dx=none/\dx≠e/\(∀ b o,H b=some o->H' b=some o)/\H' e=some (.ext (xδ e C (some dx) (excD tt)))/\H' dx=some (.xd (names.zip vs).reverse)) (fun _ _ _=>False) hrA e0 (hbd _ _ I1.kIn lenA) (by rw[List.append_nil]; exact .cons rfl rv)
  ⟨e,vs,_,rfl,hl,⟨_,rfl⟩,zAF,fun dx H' z1 z2 z3 z4 z5=>⟨rfl,dx,by rw[zAB z2]at z1; exact z1,z2,fun b o eb=>z3 b o (fun z=>by rw[z,hHe]at eb; cases eb) (by rw[zAB (fun z=>by rw[z,hHe]at eb; cases eb)]; exact eb),z4,z5⟩⟩) fun r s' hq=>?_)
 cases r with
 | error e=>exact hq.elim
 | ok fl =>
  cases fl with
  | ret u =>
   obtain⟨v,H',I',rv',rfl,dx,y1,y2,y3,y4,y5⟩:=I1.after hq
   exact⟨rv',kont e dx tt s' H' I' y3 hHe y1 y2 a0 y4 y5⟩
  | next=>exact False.elim hq
  | brk=>exact False.elim hq
  | cont=>exact False.elim hq
end
noncomputable def rmv (H:Hp) (e:Addr):Hp:=fun b=>if b=e then none else H b
theorem zBE{H:Hp}{e:Addr}:rmv H e e=none:=by unfold rmv; rw[if_pos rfl]
theorem zBN{H:Hp}{e b:Addr}(h:b≠e):rmv H e b=H b:=by unfold rmv; rw[if_neg h]
section
variable {X:Cx}{pins:List (Addr×Obj)}{σ:St}{H:Hp}{s:Shared}{e:Addr}{φ:Heap->Prop}
theorem Inv.untrack(I:Inv X pins σ H s)(he:H e=some (.ext φ)):Inv X pins σ (rmv H e) s:=by
 have oth:∀ {b:Addr} {o:HO},H b=some o->(∀ φ,o≠.ext φ)->rmv H e b=some o:=fun {b o} eb n=>by rw[zBN (fun z=>by rw[z,he]at eb; exact n _ (Option.some.inj eb).symm)]; exact eb
 have non:∀ {b:Addr},H b=none->rmv H e b=none:=fun {b} n=>by
  by_cases z:b=e
  ·rw[z]; exact zBE
  ·rw[zBN z]; exact n
 refine⟨I.ok,I.os,I.bare,{ keep:=I.base.keep,slot:=I.base.slot,free:=fun b ob q n hx=>non (I.base.free b ob q n hx),there:=I.base.there,tups:=fun b xs q=>oth (I.base.tups b xs q) (fun _ z=>by cases z),frzs:=fun b ob u q=>oth (I.base.frzs b ob u q) (fun _ z=>by cases z),tbls:=fun b ps q=>?_ },I.loc,I.cell,non I.free,fun x c q=>non (I.freeC x c q),fun p hp=>?_,fun b u q=>?_,I.len⟩
 ·obtain⟨m,e'⟩:=I.base.tbls b ps q; exact⟨m,oth e' fun _ z=>by cases z⟩
 ·obtain⟨p1,p2,p3,p4,p5⟩:=I.pin p hp
  exact⟨p1,non p2,p3,p4,p5⟩
 ·by_cases z:b=e
  ·rw[z,zBE]at q; cases q
  ·rw[zBN z]at q
   exact (I.hok b u q).stay (fun c v _ ec=>ec) (fun c ec=>oth ec fun _ z=>by cases z) (fun c xs ec=>oth ec fun _ z=>by first | cases z | (cases xs <;> cases z))
end
section
variable {P:Program}{w:World}{K:PySem.W.Frag}{mg:Str->Option Value}{base:Heap}{N:List Str}{qual:Str}{scope:Scope}{f:Addr}{cd:Value}{A:Around}{outer:List Env}{s₀ s:Shared}{H₀ H:Hp}{E:XK}{pins:List (Addr×Obj)}{σ:St}
theorem zGQ{e C T:Addr}{d:Option Addr}{h3:Heap}{S:List Addr}(I:Inv (cxOf (CXR P w) P w K mg base N qual scope f cd A outer s₀ H₀ E) pins σ H s)(hHe:H e=none)(e0:s₀.heap.get? e=none)(hS:∀ b∈S,H b=none/\s₀.heap.get? b=none)
  (c:Ch (frs ((cxOf (CXR P w) P w K mg base N qual scope f cd A outer s₀ H₀ E).env::outer)) S s.heap h3) (x3:Exc h3 e T (.ref C) d .none) (nT:s.heap.get? T=none) (hE:E (.ref C) d H):CXR P w outer H₀ s₀ E (.ref e) { s with heap:=h3 }:=by
 have habove:s₀.heap.objs.size<=(cxOf (CXR P w) P w K mg base N qual scope f cd A outer s₀ H₀ E).env.locals:=I.ok.above
 have hfs:frs ((cxOf (CXR P w) P w K mg base N qual scope f cd A outer s₀ H₀ E).env::outer)=(cxOf (CXR P w) P w K mg base N qual scope f cd A outer s₀ H₀ E).env.locals::frs outer:=rfl
 have hstk:∀ b∈frs ((cxOf (CXR P w) P w K mg base N qual scope f cd A outer s₀ H₀ E).env::outer),H b=none:=I.stackFree
 have bL:∀ b o,s₀.heap.get? b=some o->b∉frs outer->b∉frs ((cxOf (CXR P w) P w K mg base N qual scope f cd A outer s₀ H₀ E).env::outer):=fun b o eo hb z=>by
  rw[hfs]at z
  rcases List.mem_cons.mp z with z | z
  ·exact absurd (z ▸ Heap.lt_size eo) (Nat.not_lt.mpr habove)
  ·exact hb z
 have nS:∀ b o,s₀.heap.get? b=some o->b∉S:=fun b o q z=>by rw[(hS b z).2]at q; cases q
 have T0:s₀.heap.get? T=none:=by
  cases q0:s₀.heap.get? T with
  | none=>rfl
  | some o=>obtain⟨o',q1⟩:=I.base.there T o q0 (fun z=>nomatch z); rw[nT]at q1; cases q1
 refine⟨e,C,T,d,H,rfl,I.os,I.bare,{ keep:=fun b o q n hb hx'=>c.keep b o (bL b o q hb) (nS b o q) (I.base.keep b o q n hb hx'),slot:=fun b o q n hb hx'=>?_,free:=I.base.free,there:=fun b o q hx'=>?_,tups:=I.base.tups,frzs:=I.base.frzs,tbls:=I.base.tbls },I.hok.ch c hstk fun b z=>(hS b z).1,hHe,zAg I.hok nT,e0,T0,x3,hE⟩
 ·obtain⟨sl,q1⟩:=I.base.slot b o q n hb hx'
  obtain⟨sl2,q2⟩:=c.slot b _ (nS b o q) q1
  exact⟨sl2,q2⟩
 ·obtain⟨o1,q1⟩:=I.base.there b o q hx'
  obtain⟨sl,q2⟩:=c.slot b o1 (nS b o q) q1
  exact⟨_,q2⟩
theorem zDM{e C dx t:Addr}(I:Inv (cxOf (CXR P w) P w K mg base N qual scope f cd A outer s₀ H₀ E) pins σ H s)(he:H e=some (.ext (xδ e C (some dx) (excD t))))(e0:s₀.heap.get? e=none)(hE:E (.ref C) (some dx) (rmv H e)) :
  (cxOf (CXR P w) P w K mg base N qual scope f cd A outer s₀ H₀ E).xe (.ref e) s:=by
 obtain⟨⟨oe,hoe,hc,hd,hda⟩,_,_⟩:=(show ObjOk P w H s.heap e (.ext (xδ e C (some dx) (excD t))) from I.hok e _ he)
 have hfun:s.heap.FunFrames base ((cxOf (CXR P w) P w K mg base N qual scope f cd A outer s₀ H₀ E).env::outer):=I.env0.funs
 show wpAny (model P w) _ (leaving _ (.ref e)) (fun _ s''=>CXR P w outer H₀ s₀ E (.ref e) s'') (fun e' s''=>CXR P w outer H₀ s₀ E e' s'') _
 unfold leaving
 refine wpAny_bind (zFX (s:=s) (base:=base) I.ok.frames hfun rfl hoe hda rfl fun h2 T nT x2 c2=>?_)
 refine land (s:={ s with heap:=h2 }) x2 fun h3 x3 c3=>?_
 rw[hc,hd]at x3
 refine zGQ (s:=s) (S:=[e,T]) (I.untrack he) zBE e0 (fun b z=>?_) ((c2.wide (fun _ z=>z) fun b z=>by rw[List.mem_singleton.mp z]; exact List.mem_cons_self).trans (c3.wide (fun _ z=>nomatch z) fun b z=>by rw[List.mem_singleton.mp z]; exact List.mem_cons_of_mem _ List.mem_cons_self)) x3 nT hE
 rcases List.mem_cons.mp z with rfl | z
 ·exact⟨zBE,e0⟩
 ·rw[List.mem_singleton.mp z]
  refine⟨zAg (I.untrack he).hok nT,?_⟩
  cases q0:s₀.heap.get? T with
  | none=>rfl
  | some o=>obtain⟨o',q1⟩:=I.base.there T o q0 (fun z=>nomatch z); rw[nT]at q1; cases q1
theorem zEU{H1:Hp}{s1:Shared}{ev:Value}(I:Inv (cxOf (CXR P w) P w K mg base N qual scope f cd A outer s₀ H₀ E) pins σ H1 s1)(c:CXR P w ((cxOf (CXR P w) P w K mg base N qual scope f cd A outer s₀ H₀ E).env::outer) H1 s1 E ev s) :
  (cxOf (CXR P w) P w K mg base N qual scope f cd A outer s₀ H₀ E).xe ev s:=by
 obtain⟨a,C,T,d,H',rfl,os,hg,un,hok,hHa,hHT,ha,hT,x,hE⟩:=c
 have I0:Inv (cxOf (CXR P w) P w K mg base N qual scope f cd A outer s₀ H₀ E) pins σ H' s:=I.settle (S:=[]) (h'':=s.heap) os hg un hok ha hT hHa hHT (fun _ z=>nomatch z) ⟨fun _ _ _ _ q=>q,fun _ o _ q=>⟨o.slots,q⟩⟩
 have back:∀ b,s1.heap.get? b=none->s₀.heap.get? b=none:=fun b q=>by
  cases q0:s₀.heap.get? b with
  | none=>rfl
  | some o=>obtain⟨o',q1⟩:=I.base.there b o q0 (fun z=>nomatch z); rw[q]at q1; cases q1
 have hfun:s.heap.FunFrames base ((cxOf (CXR P w) P w K mg base N qual scope f cd A outer s₀ H₀ E).env::outer):=I0.env0.funs
 show wpAny (model P w) _ (leaving _ (.ref a)) (fun _ s''=>CXR P w outer H₀ s₀ E (.ref a) s'') (fun e' s''=>CXR P w outer H₀ s₀ E e' s'') _
 unfold leaving
 refine wpAny_bind (zBM (base:=base) I0.ok.frames hfun rfl x fun h2 T2 n2 x2 c2=>?_)
 refine land (s:={ s with heap:=h2 }) x2 fun h3 x3 c3=>?_
 refine zGQ (s:=s) (S:=[a,T,T2]) I0 hHa (back a ha) (fun b z=>?_) ((c2.wide (fun _ z=>z) fun b z=>?_).trans (c3.wide (fun _ z=>nomatch z) fun b z=>by rw[List.mem_singleton.mp z]; exact List.mem_cons_of_mem _ (List.mem_cons_of_mem _ List.mem_cons_self))) x3 n2 hE
 ·rcases List.mem_cons.mp z with rfl | z
  ·exact⟨hHa,back b ha⟩
  ·rcases List.mem_cons.mp z with rfl | z
   ·exact⟨hHT,back b hT⟩
   ·rw[List.mem_singleton.mp z]
    refine⟨zAg hok n2,?_⟩
    cases q0:s₀.heap.get? T2 with
    | none=>rfl
    | some o=>obtain⟨o',q1⟩:=I0.base.there T2 o q0 (fun z=>nomatch z); rw[n2]at q1; cases q1
 ·rcases List.mem_cons.mp z with rfl | z
  ·exact List.mem_cons_self
  ·rw[List.mem_singleton.mp z]; exact List.mem_cons_of_mem _ List.mem_cons_self
end
open PySem.W in
theorem zGT{K:Frag}{M:Model}{A:Around}{E:Value->Shared->Prop}{s:Shared}{env:Env}{x:Sem Value}{Q:Flow->Shared->Prop}(hh:A.handled=none)
  (h:wpAny M A x (fun v s₁=>∃ e oe C t oC,v=.ref e/\K.In s₁.heap/\s₁.heap.get? C=some oC/\oC.cls=.type "type"/\s₁.heap.get? e=some oe/\oe.cls=.ref C/\oe.data=excD t/\subIn K (.ref C) (.type "BaseException")=some true/\E (.ref e) s₁) E s) :
  wpAny M A (raiseStmt env (some x) none) Q E s:=by
 unfold raiseStmt
 refine wpAny_bind (wpAny_mono h (fun v s₁ h₁=>?_) fun _ _ x=>x)
 obtain⟨e,oe,C,t,oC,rfl,KX,hC,hCt,he,hc,hda,hb,hE⟩:=h₁
 obtain⟨hp,g,d,tk,os⟩:=s₁
 obtain⟨oc,od,oda,osl⟩:=oe
 dsimp only at hc hda
 subst hc hda
 have L3:=looks_subIn (M:=M) KX hb
 repeat (first | with_reducible refine wpAny_loadPart_at he ?_ | (with_reducible refine wpAny_loadPart_at hC ?_; rw[hCt]) | with_reducible refine L3.at ?_ | wp_step)
 exact wpAny_raiseNew_none hh hE
section
variable {P:Program}{w:World}{K:PySem.W.Frag}{mg:Str->Option Value}{base:Heap}{N:List Str}{qual:Str}{scope:Scope}{f:Addr}{cd:Value}{A:Around}{outer:List Env}{s₀:Shared}{H₀:Hp}{E:XK}
def tRaiseX(C:Addr)(names:List Str)(E:XK)(ta:TA):TS:=fun _ σ H=>ta σ H fun vs H1=>vs.length=names.length/\∀ dx H',H1 dx=none->(∀ b o,H1 b=some o->H' b=some o)->H' dx=some (.xd (names.zip vs).reverse)->E (.ref C) (some dx) H'
theorem zGr{x:Str}{np cpos pos:Pos}{e:Expr}{es:List Expr}{ta:TA}{C fI:Addr}{fd:FuncData}{ps names:List Str}{k:Nat}(q:excI K C fI=true)(Fi:FnOk P w K mg base CX0 k fI fd ps (spI C names))(hbd:Binds K fd ps [])(hl2:names.length<=900)(hlp:ps.length=names.length+1)
  (hr:Room (k+1) (cxOf (CXR P w) P w K mg base N qual scope f cd A outer s₀ H₀ E).A) (hkp:PySem.W.keepIn K (.ref C)=true)
  (hg:Gl (cxOf (CXR P w) P w K mg base N qual scope f cd A outer s₀ H₀ E) x) (hm:mg x=some (.ref C)) (ha:PA (cxOf (CXR P w) P w K mg base N qual scope f cd A outer s₀ H₀ E) (e::es) ta) (hdb:(x == ("__debug__":Str))=false)
  (he:starEach (e::es) (cxOf (CXR P w) P w K mg base N qual scope f cd A outer s₀ H₀ E).env=(false,eval e (cxOf (CXR P w) P w K mg base N qual scope f cd A outer s₀ H₀ E).env)::starEach es (cxOf (CXR P w) P w K mg base N qual scope f cd A outer s₀ H₀ E).env) (hpl:(backTo cpos (starEach es (cxOf (CXR P w) P w K mg base N qual scope f cd A outer s₀ H₀ E).env)).any (·.1)=false) :
  PS (cxOf (CXR P w) P w K mg base N qual scope f cd A outer s₀ H₀ E) (.Raise (some (.Call (.Name x np) (e::es) [] cpos)) none pos) (tRaiseX C names E ta):=by
 intro pins s σ H D I h
 rw[arm_exec_Raise]
 simp only[evalOpt,Option.map]
 refine wpAny_bind (wpAny_standAt (zGT (K:=K) hr.hd (wpAny_bind (wpAny_mono ?_ (fun v s₃ h₃=>wpAny_bind (wpAny_standAt (wpAny_pure h₃))) fun _ _ z=>z))))
 refine wpAny_Call_Name_kw (zAh I hg hm ?_ hdb)
 refine PySem.W.callWith_K (h₀:=base) I.ok.mod.kin hkp (thn (ha cpos pins s σ H _ I h) fun us s1 z=>?_) he hpl
 obtain⟨vs,H1,I1,r,hl,hq⟩:=z
 refine⟨I1.kIn,?_⟩
 rw[List.nil_append]
 refine zG4 I1 rfl q Fi hbd hr r hl hl2 hlp fun e' dx t s' H' I' y3 hHe y1 y2 a0 y4 y5=>?_
 obtain⟨⟨bm,N',nm,qn,bs,hdct,sn,sub,ab,col,dd,k0,k1,k2,k3,k5,mN,hC,_⟩,_,hb⟩:=zE4 I'.kIn q
 obtain⟨⟨oe,hoe,hc,_,hda⟩,_,_⟩:=(show ObjOk P w H' s'.heap e' (.ext (xδ e' C (some dx) (excD t))) from I'.hok e' _ y4)
 exact⟨e',oe,C,t,_,rfl,I'.kIn,hC,rfl,hoe,hc,hda,hb,zDM I' y4 a0 (hq dx (rmv H' e') y1 (fun b o eb=>by rw[zBN (fun z=>by rw[z,hHe]at eb; cases eb)]; exact y3 b o eb) (by rw[zBN y2]; exact y5))⟩
end
def getKit(K:PySem.W.Frag)(C:Addr)(n:Str):Bool:=PySem.W.findIn K (.ref C) "__getattribute__" == some (some (.builtin "BaseException.__getattribute__")) && PySem.W.findIn K (.ref C) "__getattr__" == some none && PySem.W.findIn K (.ref C) n == some none && PySem.W.subIn K (.ref C) (.type "BaseException") == some true &&
 (match PySem.W.clsIn K C with
  | some cd=>cd.hasDict
  | none=>false)
def handV:V->Bool
 | .int _=>true
 | .str _=>true
 | _=>false
def tGetX(K:PySem.W.Frag)(to:TE)(n:Str):TE:=fun σ H Q=>to σ H fun x H1=>∃ a C dx fs v,x=.ref a/\H1 a=some (.ext (xφ a C (some dx)))/\H1 dx=some (.xd fs)/\fs.lookup n=some v/\getKit K C n=true/\handV v=true/\Q v H1
theorem zIz{X:Cx}{o:Expr}{to:TE}{n:Str}{pos:Pos}(ho:PE X o to)(hb:attributeBase o n X.env (eval o X.env)=eval o X.env):PE X (.Attribute o n pos) (tGetX X.K to n):=by
 intro pins s σ H Q I h
 refine zIg hb (thn (ho pins s σ H _ I h) fun u s1 ⟨x,H1,I1,rx,a,C,dx,fs,v,ex,ha,hd,hlk,q,hv,k⟩=>?_)
 subst ex
 obtain rfl:u=Value.ref a:=rx
 unfold getKit at q
 simp only[Bool.and_eq_true,beq_iff_eq]at q
 obtain⟨⟨⟨⟨q1,q2⟩,q3⟩,q4⟩,q5⟩:=q
 split at q5
 rotate_left
 ·cases q5
 rename_i cd hcd
 obtain⟨⟨oe,hoe,hc,hdc,hnc⟩,_,_⟩:=(show ObjOk X.prog X.w H1 s1.heap a (.ext (xφ a C (some dx))) from I1.hok a _ ha)
 obtain⟨mA,hns,hrel⟩:=(show ObjOk X.prog X.w H1 s1.heap dx (.xd fs) from I1.hok dx _ hd)
 have hr:=hrel n
 rw[hlk]at hr
 cases hm:mA n with
 | none=>rw[hm]at hr; exact hr.elim
 | some w =>
  rw[hm]at hr
  have hh:handedOut w=pure w:=by
   cases v with
   | int i=>obtain⟨t,rfl⟩:=(show ∃ t,w=Value.int i t from hr); rfl
   | str x=>obtain⟨t,rfl⟩:=(show ∃ t,w=Value.str x t from hr); rfl
   | _=>cases hv
  obtain⟨hp,g,d,t,os⟩:=s1
  exact zH7 I1.kIn hoe hc hnc hdc hns hm q1 q2 q3 hcd q5 q4 hh ⟨v,H1,I1.tok _,hr,k⟩
end L2
namespace D
open PySem L2
def isXs:S->Option (Str×List (Str×V))
 | .v (.x c fs)=>some (c,fs)
 | _=>none
def isXg:G->Option (Str×List (Str×V))
 | .v (.x c fs)=>some (c,fs)
 | _=>none
theorem zIy{s:S}{z:Str×List (Str×V)}(h:isXs s=some z):s=.v (.x z.1 z.2):=by
 unfold isXs at h
 split at h
 ·cases h; rfl
 ·cases h
theorem zI2{s:G}{z:Str×List (Str×V)}(h:isXg s=some z):s=.v (.x z.1 z.2):=by
 unfold isXg at h
 split at h
 ·cases h; rfl
 ·cases h
def XiE(K:Fg)(E:XK)(c:Str)(fs:List (Str×V))(H:Hp):Prop:=∀ (C:Addr) (d:Option Addr) (H':Hp),PySem.W.nsIn K mainGlobals c=some (some (.ref C))->(∀ b o,H b=some o->H' b=some o)->((d=none/\fs=[])\/∃ dx,d=some dx/\H' dx=some (.xd fs))->E (.ref C) d H'
def OkX(K:Fg)(C:Fr)(E:XK)(D:Ends):O->Prop
 | .rt s Γ=>(∀ z,isXs s=some z->∀ w σ H,Rep K C w Γ σ H->XiE K E z.1 z.2 H)/\(isXs s=none->∀ w σ H v,Rep K C w Γ σ H->SOk K C w σ H v s->D.rt v H)
 | o=>OkO K C D o
def SimX(K:Fg)(E:XK)(ts:TS)(g:DS):Prop:=∀ (C:Fr) (w:W) (Γ:En) (σ:St) (H:Hp) (D:Ends) (o:O),C.pins.map (·.1)=(none:Option Nat).toList->Rep K C w Γ σ H->g Γ=some o->OkX K C E D o->ts D σ H
def noX:O->Option O
 | .rt s Γ=>match isXs s with
  | some _=>none
  | none=>some (.rt s Γ)
 | o=>some o
def dN(g:DS):DS:=fun Γ=>(g Γ).bind noX
theorem zGO{o o':O}(h:noX o=some o'):o=o'/\∀ K C E D,OkX K C E D o' ↔ OkO K C D o':=by
 cases o with
 | nx Γ=>cases h; exact⟨rfl,fun _ _ _ _=>Iff.rfl⟩
 | bk Γ=>cases h; exact⟨rfl,fun _ _ _ _=>Iff.rfl⟩
 | ct Γ=>cases h; exact⟨rfl,fun _ _ _ _=>Iff.rfl⟩
 | rt s Γ =>
  unfold noX at h
  dsimp only at h
  split at h
  ·cases h
  ·rename_i hn
   cases h
   exact⟨rfl,fun K C E D=>⟨fun z=>z.2 hn,fun z=>⟨fun y hy=>by (rw[hn]at hy; cases hy),fun _=>z⟩⟩⟩
section
variable {K:Fg}{E:XK}
theorem zIE{ts:TS}{g:DS}(h:SimS K none ts g):SimX K E ts (dN g):=by
 intro C w Γ σ H D o hp R e k
 obtain⟨o1,e1,e⟩:=bind_some e
 obtain⟨rfl,hk⟩:=zGO e
 exact h C w Γ σ H D o1 hp R e1 ((hk K C E D).mp k)
theorem zGm{ts:TS}{g:DS}(h:SimX K E ts g):SimS K none ts (dN g):=by
 intro C w Γ σ H D o hp R e k
 obtain⟨o1,e1,e⟩:=bind_some e
 obtain⟨rfl,hk⟩:=zGO e
 exact h C w Γ σ H D o1 hp R e1 ((hk K C E D).mpr k)
theorem zF3:SimX K E tNext dNext:=fun C w Γ σ H D o _ R e k=>by cases e; exact k w σ H R
theorem zHi{t u:TS}{f g:DS}(h1:SimX K E t f)(h2:SimX K E u g):SimX K E (tSeq t u) (dSeq f g):=by
 intro C w Γ σ H D o hp R e k
 obtain⟨o1,e1,e⟩:=bind_some e
 refine h1 C w Γ σ H _ o1 hp R e1 ?_
 cases o1 with
 | nx Γ1=>exact fun w' σ' H' R'=>h2 C w' Γ1 σ' H' D o hp R' e k
 | rt s Γ1=>cases e; exact k
 | bk Γ1=>cases e; exact k
 | ct Γ1=>cases e; exact k
theorem zIW{tc:TT}{t u:TS}{c:DT}{f g:DS}(hc:SimT K tc c)(h1:SimX K E t f)(h2:SimX K E u g):SimX K E (tIfS tc t u) (dIf c f g):=by
 intro C w Γ σ H D o hp R e k
 obtain⟨⟨p,G1⟩,e1,e⟩:=bind_some e
 refine hc C w Γ σ H p G1 _ R e1 fun H1 R1 _=>?_
 cases p with
 | true=>exact (if_pos rfl).mpr (h1 C w G1 σ H1 D o hp R1 (by simpa using e) k)
 | false=>exact (if_neg Bool.false_ne_true).mpr (h2 C w G1 σ H1 D o hp R1 (by simpa using e) k)
def atomsS:List S->Option (List V)
 | []=>some []
 | .v (.a v)::r=>(atomsS r).map fun vs=>v::vs
 | _=>none
def dRaiseX(c:Str)(names:List Str)(fa:DA):DS:=fun Γ=>(fa Γ).bind fun p=>(atomsS p.1).bind fun vs=>if vs.length=names.length then some (.rt (.v (.x c (names.zip vs).reverse)) p.2) else none
theorem zDD{C:Fr}{w:W}{σ:St}{H:Hp}:∀ {ss:List S} {vs us:List V},atomsS ss=some us->SOks K C w σ H vs ss->vs=us
 | [],[],us,e,_=>by cases e; rfl
 | [],_::_,us,e,h=>h.elim
 | s::ss,[],us,e,h=>h.elim
 | s::ss,v::vs,us,e,h=>by
  unfold atomsS at e
  split at e
  ·rename_i z; cases z
  ·rename_i u r z
   cases z
   obtain⟨us',e1,e2⟩:=zAA e
   subst e2
   have h1:v=u:=(show Im K H v (.a u) from h.1).inva
   rw[h1,zDD e1 h.2]
  ·cases e
theorem zFY{c:Str}{names:List Str}{Ca:Addr}{ta:TA}{fa:DA}(ha:SimA K ta fa)(hc:PySem.W.nsIn K mainGlobals c=some (some (.ref Ca))):SimX K E (tRaiseX Ca names E ta) (dRaiseX c names fa):=by
 intro C w Γ σ H D o hp R e k
 obtain⟨⟨ss,Γ1⟩,e1,e⟩:=bind_some e
 obtain⟨us,e2,e⟩:=bind_some e
 split at e
 ·rename_i hl
  cases e
  refine ha C w Γ σ H ss Γ1 _ R e1 fun vs H1 R1 ev1 o1 _=>?_
  have hv:=zDD e2 o1
  subst hv
  exact⟨hl,fun dx H' _ ext hx=>k.1 (c,(names.zip vs).reverse) rfl w σ H1 R1 Ca (some dx) H' hc ext (.inr ⟨dx,rfl,hx⟩)⟩
 ·cases e
end
def spX(K:Fg)(n:Nat)(F:DF):Sp:=fun vs H Q E=>vs.length=n/\∃ (w:W) (gs:List G) (r:G) (ys:List T),w.L=[]/\F gs=some (r,ys)/\Rep K ⟨H,w.L,[]⟩ w (gs.map some) (vs.map some) H /\
 (∀ z,isXg r=some z->∀ H',(∀ b o,H b=some o->H' b=some o)->XiE K E z.1 z.2 H')/\(isXg r=none->∀ v H',(∀ b o,H b=some o->H' b=some o)->ROk K H H' v r->Q v H')
section
variable {K:Fg}
theorem zHd{ts:TS}{g:DS}{N:List Str}{np:Nat}{vs:List V}{H:Hp}{Q:VK}{E:XK}(hb:SimX K E ts g)(h:spX K np (fnD none np N.length g) vs H Q E):ts { nx:=fun _ H'=>Q .non H',rt:=Q } (L2.start N vs) H:=by
 obtain⟨hn,w,gs,r,ys,hw,e,R,k1,k2⟩:=h
 have hg:gs.length=np:=zBZ _ _ e
 have e0:=e
 unfold fnD at e0
 rw[if_pos hg]at e0
 obtain⟨o,e1,e0⟩:=bind_some e0
 have plain:isXg r=none->noX o=some o->ts { nx:=fun _ H'=>Q .non H',rt:=Q } (L2.start N vs) H:=fun hr ho=>by
  have e':fnD none np N.length (dN g) gs=some (r,ys):=by
   unfold fnD dN
   rw[if_pos hg,e1,Option.bind_some,ho,Option.bind_some]
   exact e0
  exact zBh (E:=E) (zGm hb) ⟨hn,w,gs,r,ys,e',R,rfl,(fun p hp=>by rw[hw]at hp; cases hp),fun v H' ev _ hv=>k2 hr v H' (fun b o hb=>ev b o hb (by rw[hw]; exact nofun)) hv⟩
 cases o with
 | nx Γ'=>cases e0; exact plain rfl rfl
 | bk Γ'=>cases e0
 | ct Γ'=>cases e0
 | rt s Γ' =>
  obtain⟨r',e2,e0⟩:=zAA e0
  cases e0
  cases hs:isXs s with
  | none =>
   refine plain ?_ (by unfold noX; dsimp only; rw[hs])
   cases s with
   | v t=>cases e2; cases t <;> first | rfl | cases hs
   | l xs=>cases e2; rfl
   | d xs=>cases e2; rfl
   | s i =>
    unfold resG at e2
    dsimp only at e2
    split at e2
    ·cases e2
    ·split at e2 <;> cases e2 <;> rfl
  | some z =>
   have:=zIy hs
   subst this
   cases e2
   have R0:Rep K ⟨H,w.L,[]⟩ w (gs.map some++List.replicate (N.length - np) none) (L2.start N vs) H:=by
    unfold L2.start
    rw[hn]
    exact R.more _
   exact hb _ w _ _ H _ _ rfl R0 e1 ⟨fun y hy w' σ' H' R'=>by cases hy; exact k1 z rfl H' fun b o hb=>R'.frame b o hb (by rw[hw]; exact nofun),fun hy=>by cases hy⟩
end
def SXX{ι:Type}(K:Fg)(E:XK)(X:ι->Cx)(s:Stmt)(f:DS):Prop:=∃ t,(∀ j,PS (X j) s t)/\SimX K E t f
def BXX{ι:Type}(K:Fg)(E:XK)(X:ι->Cx)(s:List Stmt)(f:DS):Prop:=∃ t,(∀ j,PSs (X j) s t)/\SimX K E t f
structure FX(P:Program)(wd:World)(K:Fg)(mg:Str->Option Value)(base:Heap)(k:Nat)(x:Str)(n:Nat)(F:DF):Prop where
 ex:∃ (f:Addr) (fd:FuncData) (ps:List Str),FnOk P wd K mg base (CXR P wd) k f fd ps (spX K n F)/\mg x=some (.ref f)/\PySem.W.keepIn K (.ref f)=true/\Binds K fd ps []
 len:∀ gs r,F gs=some r->gs.length=n
structure XC(P:Program)(wd:World)(K:Fg)(mg:Str->Option Value)(base:Heap)(k:Nat)(c:Str)(names:List Str):Prop where
 ex:∃ (C fI:Addr) (fd:FuncData) (ps:List Str),PySem.W.nsIn K mainGlobals c=some (some (.ref C))/\mg c=some (.ref C)/\excI K C fI=true/\FnOk P wd K mg base CX0 k fI fd ps (spI C names)/\Binds K fd ps []/\names.length<=900/\ps.length=names.length+1/\PySem.W.keepIn K (.ref C)=true
section
variable {ι:Type}{P:Program}{wd:World}{base:Heap}{K:Fg}{mg:Str->Option Value}{E:XK}{k k' n:Nat}{X:ι->Cx}{c e:Expr}{es:List Expr}{st:Stmt}{sts sts':List Stmt}{f g:DS}{ta:DT}{da:DA}{F:DF}{pos:Pos}{x y cn nm:Str}
theorem sxx_plain(h:SX K X none st f):SXX K E X st (dN f):=let ⟨_,p,s⟩:=h; ⟨_,p,zIE s⟩
theorem bxx_nil:BXX K E X [] dNext:=⟨_,fun _=>zEy,zF3⟩
theorem bxx_one(h:SXX K E X st f):BXX K E X [st] f:=let ⟨_,p,s⟩:=h; ⟨_,fun j=>zCk (p j),s⟩
theorem bxx_cons(h:SXX K E X st f)(h2:BXX K E X sts g):BXX K E X (st::sts) (dSeq f g):=let ⟨_,p,s⟩:=h; let ⟨_,q,u⟩:=h2; ⟨_,fun j=>zDn (p j) (q j),zHi s u⟩
theorem sxx_if(hc:TX K X c ta)(h1:BXX K E X sts f)(h2:BXX K E X sts' g):SXX K E X (.If c sts sts' pos) (dIf ta f g):=let ⟨_,p,s⟩:=hc; let ⟨_,q,u⟩:=h1; let ⟨_,q',u'⟩:=h2; ⟨_,fun j=>zHy (p j) (q j) (q' j),zIW s u u'⟩
def CatX(K:Fg)(mg:Str->Option Value)(y:Str)(cs:List Str):Prop:=∃ D,mg y=some (.ref D)/\∀ c∈cs,∀ C,PySem.W.nsIn K mainGlobals c=some (some (.ref C))->catches K C D=true
def XGC(K:Fg)(gk:List (Str×Str)):Bool:=gk.all fun q=>match PySem.W.nsIn K mainGlobals q.1 with
 | some (some (.ref C))=>getKit K C q.2
 | _=>false
def dGetX(gk:List (Str×Str))(n:Str)(f:DE):DE:=fun Γ=>(f Γ).bind fun p=>match p.1 with
 | .v (.x c fs)=>if (c,n)∈gk then (fs.lookup n).bind fun v=>if handV v=true then some (.v (.a v),p.2) else none else none
 | _=>none
theorem zHC{gk:List (Str×Str)}{n:Str}{to:TE}{fo:DE}(hk:XGC K gk=true)(ho:SimE K to fo):SimE K (tGetX K to n) (dGetX gk n fo):=by
 intro C w Γ σ H s Γ' Q R e k
 obtain⟨⟨a,G1⟩,e1,e⟩:=bind_some e
 dsimp only at e
 split at e
 ·rename_i c fs
  split at e
  ·rename_i hc
   obtain⟨v,e2,e⟩:=bind_some e
   split at e
   ·rename_i hv
    cases e
    refine ho C w Γ σ H _ _ _ R e1 fun u H1 R1 ev1 o1 n1=>?_
    obtain⟨p,rfl,Ca,d,h1,h2,h3⟩:=(show Im K H1 u (.x c fs) from o1).invx
    have hq:=List.all_eq_true.mp hk _ hc
    dsimp only at hq
    rw[h1]at hq
    rcases h3 with ⟨rfl,rfl⟩ | ⟨dx,rfl,h4⟩
    ·cases e2
    ·exact⟨p,Ca,dx,fs,v,rfl,h2,h4,e2,hq,hv,k _ H1 R1 ev1 SOk.atom trivial⟩
   ·cases e
  ·cases e
 ·cases e
end
section
variable {P:Program}{wd:World}{base:Heap}{K:Fg}{mg:Str->Option Value}{E:XK}{k k' n:Nat}{N:List Str}{qual:Str}{sc:Scope}{f:Addr}{cdv:Value}{A:Around}{outer:List Env}{s:Shared}{H:Hp}{e:Expr}{es:List Expr}{da:DA}{F:DF}{x:Str}{names:List Str}{p np cpos pos epos:Pos}
theorem sxx_raise(M:Fm K mg k (cxR P wd K mg base N qual sc f cdv A outer s H E))(G:XC P wd K mg base k' x names)(ha:AX K (cxR P wd K mg base N qual sc f cdv A outer s H E) (e::es) da)(hk:k'+1<=k:=by first | exact Nat.le_refl _ | decide | omega)
  (hg:Gl ((cxR P wd K mg base N qual sc f cdv A outer s H E) ()) x:=by rfl) (hdb:(x == ("__debug__":Str))=false:=by decide)
  (he:starEach (e::es) ((cxR P wd K mg base N qual sc f cdv A outer s H E) ()).env=(false,eval e ((cxR P wd K mg base N qual sc f cdv A outer s H E) ()).env)::starEach es ((cxR P wd K mg base N qual sc f cdv A outer s H E) ()).env:=by rfl) (hpl:(backTo cpos (starEach es ((cxR P wd K mg base N qual sc f cdv A outer s H E) ()).env)).any (·.1)=false:=by rfl) :
  SXX K E (cxR P wd K mg base N qual sc f cdv A outer s H E) (.Raise (some (.Call (.Name x np) (e::es) [] cpos)) none pos) (dRaiseX x names da):=by
 obtain⟨t,pa,sa⟩:=ha
 obtain⟨C,fI,fd,ps,h1,h2,h3,h4,h5,h6,h7,h8⟩:=G.ex
 exact⟨_,fun j=>zGr h3 h4 h5 h6 h7 ((M.room ()).mono hk) h8 hg h2 (pa ()) hdb he hpl,zFY sa h1⟩
end
section
variable {P:Program}{wd:World}{base:Heap}{K:Fg}{mg:Str->Option Value}{k:Nat}
theorem fx_of{x:Str}{st:Stmt}{f:Addr}{fd:FuncData}{N ps:List Str}{g:DS}(F:Fun K x x st f fd)(S:FnScope N ps (defScope st))(hm:mg x=some (.ref f))(hb:Binds K fd ps [])
  (body:∀ (cdv:Value) (A:Around) (outer:List Env) (s:Shared) (H:Hp) (E:XK),Fm K mg k (cxR P wd K mg base N x (defScope st) f cdv A outer s H E)->Fb P wd base (cxR P wd K mg base N x (defScope st) f cdv A outer s H E)->BXX K E (cxR P wd K mg base N x (defScope st) f cdv A outer s H E) (defBody st) g) :
  FX P wd K mg base (k+1) x ps.length (fnD none ps.length N.length g):=by
 refine⟨⟨f,fd,ps,?_,hm,F.kp,hb⟩,zBZ⟩
 obtain⟨oc,od,kV,doc,pm,an,cdv,ct,osl,rfl,lk,hcd⟩:=F.ex
 refine zHw lk hcd S (fun vs H Q E h=>h.1) fun A outer s H vs Q E hr h=>?_
 obtain⟨t,p,u⟩:=body cdv A outer s H E ⟨fun _=>rfl,fun _=>rfl,fun _=>rfl,fun _=>hr⟩ ⟨fun _=>rfl,fun _=>rfl,fun _=>rfl⟩
 exact⟨t,p (),zHd u h⟩
theorem zJ3{C fI:Addr}{fd:FuncData}{ps names:List Str}{c:Str}(h1:PySem.W.nsIn K mainGlobals c=some (some (.ref C)))(h2:mg c=some (.ref C))(h3:excI K C fI=true)(h4:FnOk P wd K mg base CX0 k fI fd ps (spI C names))(h5:Binds K fd ps [])(h6:names.length<=900)(h7:ps.length=names.length+1)(h8:PySem.W.keepIn K (.ref C)=true):XC P wd K mg base k c names:=⟨⟨C,fI,fd,ps,h1,h2,h3,h4,h5,h6,h7,h8⟩⟩
end
section
variable {g:DS}{Γ:En}{n:Nat}{F:DF}{fa:DA}{c nn:Str}{names cs:List Str}{i:Option Nat}{j:Nat}{fs:DS}{gk:List (Str×Str)}{f:DE}
@[simp] theorem zNs:dN g Γ=bnd (g Γ) (f:=⟨noX⟩):=(rfl)
@[simp] theorem zMm{Γ:En}:noX (.nx Γ)=some (.nx Γ):=(rfl)
@[simp] theorem zN2{Γ:En}{v:V}:noX (.rt (.v (.a v)) Γ)=some (.rt (.v (.a v)) Γ):=(rfl)
@[simp] theorem zN9{Γ:En}{v:List T}:noX (.rt (.v (.t v)) Γ)=some (.rt (.v (.t v)) Γ):=(rfl)
theorem zAT:dRaiseX c names fa Γ=bnd (fa Γ) (f:=⟨fun p=>(atomsS p.1).bind fun vs=>if vs.length=names.length then some (.rt (.v (.x c (names.zip vs).reverse)) p.2) else none⟩):=(rfl)
end
end D
namespace L2
open PySem PySem.Spec PyProof.Rows
def strsV(ys:List Str):List V:=ys.map V.str
theorem zDk:∀ {ys:List Str} {us:List Value},Vals (strsV ys) us->StrsAre us ys
 | [],us,h=>by cases h; exact .nil
 | y::r,us,h=>by
  cases h with
  | cons h1 h2 =>
   obtain⟨t,rfl⟩:=h1
   exact .cons y t (zDk h2)
def rJoin(K:PySem.W.Frag):V->List V->Hp->VK->Prop:=fun x vs H Q=>∃ z p ys,x=.str z/\vs=[.ref p]/\SqL K H p (strsV ys)/\(ys.map (·.length)).sum+ys.length * z.length<=16777216/\Q (.str (Txt.join z ys)) H
theorem mt_join{X:Cx}:MtM X "str.join" (rJoin X.K):=by
 intro pins s σ H x vs v us Q I rx rv h
 obtain⟨z,p,ys,rfl,rfl,hq,hz,q⟩:=h
 obtain⟨t,rfl⟩:=rx
 obtain⟨u,rfl,ru⟩:=rv.one
 cases ru
 obtain⟨its,rw',⟨⟨cls,dd,data,sl⟩,n,ho,hc,hdd,hd⟩,hz'⟩:=I.list hq
 exact join_list (items:=its.toArray) ⟨_,ho,hc,n,hd⟩ (by simpa using zDk rw') hz fun t' k=>⟨.str (Txt.join z ys),H,I.tok _,⟨_,rfl⟩,q⟩
end L2
namespace D
open PySem L2
def strsOf:List T->Option (List Str)
 | []=>some []
 | .a (.str y)::r=>(strsOf r).map fun ys=>y::ys
 | _=>none
theorem zCw{K:Fg}{H:Hp}:∀ {ts:List T} {vs:List V} {ys:List Str},strsOf ts=some ys->Ims K H vs ts->vs=strsV ys
 | [],vs,ys,e,h=>by cases e; unfold Ims at h; exact h
 | t::r,vs,ys,e,h=>by
  unfold strsOf at e
  split at e
  ·rename_i h0; cases h0
  ·rename_i d r' h0
   cases h0
   obtain⟨ds',e1,e⟩:=zAA e
   cases e
   unfold Ims at h
   obtain⟨v,vr,rfl,h1,h2⟩:=h
   rw[h1.inva,zCw e1 h2]; rfl
  ·cases e
abbrev rSM(r:V->List V->Hp->VK->Prop):List V->Hp->VK->Prop:=fun vs H Q=>match vs with
 | x::xs=>r x xs H Q
 | []=>False
def dSM(g:En->List S->Option S)(fo:DE)(fa:DA):DE:=fun Γ=>(fo Γ).bind fun p=>match p.1 with
 | .v (.a (.str z))=>(fa p.2).bind fun q=>(g q.2 (.v (.a (.str z))::q.1)).map fun s=>(s,q.2)
 | _=>none
theorem zJa{K:Fg}{r:V->List V->Hp->VK->Prop}{g:En->List S->Option S}{to:TE}{ta:TA}{fo:DE}{fa:DA}(hr:SimRs K (rSM r) g)(ho:SimE K to fo)(ha:SimA K ta fa):SimE K (tBM K "str" r to ta) (dSM g fo fa):=by
 intro C w Γ σ H s Γ' Q R e k
 obtain⟨⟨a,G1⟩,e1,e⟩:=bind_some e
 dsimp only at e
 split at e
 ·rename_i z
  obtain⟨⟨as,G2⟩,e2,e⟩:=bind_some e
  obtain⟨y,e3,e⟩:=zAA e
  cases e
  refine ho C w Γ σ H _ _ _ R e1 fun u H1 R1 ev1 o1 n1=>?_
  have hu:u=.str z:=o1.inva
  subst hu
  refine⟨rfl,ha C w G1 σ H1 as G2 _ R1 e2 fun vs H2 R2 ev2 o2 n2=>?_⟩
  exact hr C w G2 σ H2 (.str z::vs) (.v (.a (.str z))::as) _ Q R2 ⟨SOk.atom,o2⟩ e3 fun v H3 R3 ev3 o3 n3=>k v H3 R3 ((ev1.trans ev2).trans ev3) o3 (n3.back (ev1.trans ev2) R2.lst)
 ·cases e
def joinS:En->List S->Option S:=fun Γ as=>match as with
 | [.v (.a (.str z)),a]=>(sqlOf Γ a).bind fun ts=>(strsOf ts).bind fun ys=>if (ys.map (·.length)).sum+ys.length * z.length<=16777216 then some (.v (.a (.str (Txt.join z ys)))) else none
 | _=>none
theorem sims_join{K:Fg}:SimRs K (rSM (rJoin K)) joinS:=by
 intro C w Γ σ H vs as s Q R o e k
 unfold joinS at e
 split at e
 ·rename_i z a
  obtain⟨ts,e1,e⟩:=bind_some e
  obtain⟨ys,e2,e⟩:=bind_some e
  split at e
  ·rename_i hz
   cases e
   match vs,o with
   | [x,y],o =>
    have hx:x=.str z:=(show Im K H x _ from o.1).inva
    obtain⟨p,us,rfl,h1,h2⟩:=zAY R o.2.1 e1
    have:=zCw e2 h2
    subst this
    exact⟨z,p,ys,hx,rfl,h1,hz,k _ H R .refl SOk.atom trivial⟩
   | [],o=>exact o.elim
   | [x],o=>exact o.2.elim
   | x::y::w::l,o=>exact o.2.2.elim
  ·cases e
 ·cases e
section
variable {ι:Type}{K:Fg}{mg:Str->Option Value}{k:Nat}{X:ι->Cx}{o e:Expr}{es:List Expr}{fo:DE}{da:DA}
theorem ex_sm{r:Fg->V->List V->Hp->VK->Prop}{g:En->List S->Option S}{name:Str}{id:String}{apos cpos:Pos}(M:Fm K mg k X)(slot:Slot "str" name id)(hty:typeOf (.builtin id)=pure (.type "method_descriptor"))(hm:∀ j,MtM (X j) id (r (X j).K))(hr:SimRs K (rSM (r K)) g)(ho:EX K X o fo)(ha:AX K X (e::es) da)
  (hbase:∀ j,attributeBase o name (X j).env (eval o (X j).env)=eval o (X j).env:=by intro _; rfl)
  (hfew:∀ j,((backTo cpos (starEach (e::es) (X j).env)).all (fun x=>!x.1) && (backToKw cpos (keywordEach [] (X j).env)).all (fun x=>x.1.isSome) && decide ((e::es).length+([]:List Keyword).length+(if ([]:List Keyword).isEmpty then 0 else 1) < 30))=true:=by intro _; rfl)
  (hline:(apos.endLine == cpos.line)=true:=by rfl) (hs:∀ j,starEach (e::es) (X j).env=(false,eval e (X j).env)::starEach es (X j).env:=by intro _; rfl) (hplain:∀ j,(backTo cpos (starEach es (X j).env)).any (·.1)=false:=by intro _; rfl) :
  EX K X (.Call (.Attribute o name apos) (e::es) [] cpos) (dSM g fo da) :=
 let ⟨t0,q0,u0⟩:=ho; let ⟨t,q,u⟩:=ha
 ⟨tBM K "str" (r K) t0 t,fun j=>by have:=zH0 PySem.F.plainAttrs_str slot hty (hm j) (q0 j) (q j) (hbase j) (hfew j) hline (hs j) (hplain j); rw[M.K j]at this; exact this,zJa hr u0 u⟩
end
section
variable {g:En->List S->Option S}{fo:DE}{fa:DA}{Γ:En}{z y:Str}{r:List T}
@[simp] theorem zMk:dSM g fo fa Γ=(fo Γ).bind fun p=>match p.1 with
 | .v (.a (.str z))=>(fa p.2).bind fun q=>(g q.2 (.v (.a (.str z))::q.1)).map fun s=>(s,q.2)
 | _=>none:=(rfl)
@[simp] theorem zEO:strsOf (.a (.str y)::r)=(strsOf r).map fun ys=>y::ys:=(rfl)
@[simp] theorem zAH{a:S}:joinS Γ [.v (.a (.str z)),a]=(sqlOf Γ a).bind fun ts=>(strsOf ts).bind fun ys=>if (ys.map (·.length)).sum+ys.length * z.length<=16777216 then some (.v (.a (.str (Txt.join z ys)))) else none:=(rfl)
end
end D
namespace L2
open PySem PySem.Spec PyProof.Rows
theorem zF5{X:Cx}:CallR X (.type "str") (fun xs H Q=>∃ i:Int,xs=[.int i]/\i.natAbs.log2 < 1920/\Q (.str (toString i)) H):=by
 intro pins s σ H xs us Q I r h
 obtain⟨i,rfl,hi,q⟩:=h
 obtain⟨u,rfl,t,rfl⟩:=vals1 r
 exact PySem.P.str_of_int hi ⟨.str (toString i),H,I.tok _,⟨_,rfl⟩,q⟩
def Its(x:Str):It:=⟨fun i _=>i < x.cps.size,fun i H v H'=>H'=H/\∃ c,x.cps[i]?=some c/\v=.str ⟨#[c]⟩,fun i _=>x.cps.size<=i⟩
theorem zHH{P:Program}{w:World}{K:PySem.W.Frag}{tg:Expr}(it:Addr)(x:Str)(t:Tok):Turn P w K tg (Its x) [it] it (fun i h=>h.IsStrIter it "str_ascii_iterator" x t i) where
 mem:=by simp
 obj:=fun i h st b hb=>by
  have e:b=it:=by simpa using hb
  subst e
  obtain⟨o,e,c,d⟩:=st
  exact⟨o,e,fun v z=>by rw[d]at z; cases z⟩
 keep:=fun i h h' st k=>by obtain⟨o,e,r⟩:=st; exact⟨o,k it (by simp) o e,r⟩
 item:=by
  intro X hP hw hK hc i pins s σ H E I hf st hg
  subst hP hw hK
  obtain⟨f0,f1,f2,f3,f4,f5⟩:=hf it (by simp)
  have hg':i < x.cps.size:=hg
  refine wpAny_pyNext_ascii_item st (c:=x.cps[i]) (by simp[hg']) fun h' st' sb=>?_
  have I1:Inv X pins σ H { s with heap:=h',toks:=s.toks+1 }:=I.turned (fun b o hb e=>(sb.2 b hb).trans e) f0 f1 f3 f4 f5
  obtain⟨o,e,c,d⟩:=id st'
  exact⟨_,rfl,zDP (s:={ s with heap:=h',toks:=s.toks+1 }) e c d (by decide) ⟨.str ⟨#[x.cps[i]]⟩,H,I1,⟨_,rfl⟩,⟨rfl,x.cps[i],by simp[hg'],rfl⟩,st',fun b hb=>(hf b hb).1⟩⟩
 done:=by
  intro X hP hw hK hc i pins s σ H E I hf st hg
  subst hP hw hK
  obtain⟨f0,f1,f2,f3,f4,f5⟩:=hf it (by simp)
  exact wpAny_pyNext_ascii_end (I.ok.hd hc) st (by have z:x.cps.size<=i:=hg; simpa using z) fun h' eb=>⟨rfl,I.turned (t':=s.toks) (fun b o hb e=>eb b o hb e) f0 f1 f3 f4 f5⟩
 self:=fun _ _ _ _ _ st h=>wpAny_pyIter_striter_ascii st h
def iStr(tl:TE):TI:=fun σ H R=>tl σ H fun v H1=>∃ x,v=.str x/\x.cps.all (· < 128)=true/\R (Its x) H1
theorem zJE{X:Cx}{tg l:Expr}{tl:TE}(hl:PE X l tl):PI X tg l (iStr tl):=by
 intro pins s σ H R I h
 refine thn (hl pins s σ H _ I h) fun v s1 ⟨x',H1,I1,r1,q1⟩=>?_
 obtain⟨x,e,ha,q⟩:=q1
 subst e
 obtain⟨t,rfl⟩:=r1
 refine wpAny_pyIter_ascii ha ?_
 refine⟨s1.heap.objs.size,[s1.heap.objs.size],_,_,H1,rfl,I1.kept (t':=s1.toks) fun b o e=>Heap.get?_push_of_some _ e,zHH _ x t,⟨_,Heap.get?_push_size _ rfl,rfl,rfl⟩,fun b hb=>?_,q⟩
 have e:b=s1.heap.objs.size:=by simpa using hb
 subst e
 exact I1.fpOk (Nat.le_refl _) (I1.hok.fresh (Nat.le_refl _))
end L2
namespace D
open PySem L2
def strS:En->List S->Option S:=fun _ as=>match as with
 | [.v (.a (.int i))]=>if i.natAbs.log2 < 1920 then some (.v (.a (.str (toString i)))) else none
 | _=>none
theorem zGd{K:Fg}:SimRs K (fun xs H Q=>∃ i:Int,xs=[.int i]/\i.natAbs.log2 < 1920/\Q (.str (toString i)) H) strS:=by
 intro C w Γ σ H vs as s Q R o e k
 unfold strS at e
 split at e
 ·rename_i i
  split at e
  ·rename_i hi
   cases e
   obtain⟨v,rfl,o1⟩:=soks1 o
   exact⟨i,by rw[o1.inva],hi,k _ H R .refl SOk.atom trivial⟩
  ·cases e
 ·cases e
def sgnT(x:Str):List T:=x.cps.toList.map fun c=>.a (.str ⟨#[c]⟩)
def dStrI(fa:DE):DI:=fun Γ=>(fa Γ).bind fun p=>match p.1 with
 | .v (.a (.str x))=>if x.cps.all (· < 128)=true/\x.length<=sizeLine then some ((sgnT x,[]),p.2) else none
 | _=>none
theorem zG6{K:Fg}{tl:TE}{fa:DE}(ha:SimE K tl fa):SimI K (iStr tl) (dStrI fa):=by
 intro C w Γ σ H its src Γ' R Rp e k
 obtain⟨⟨a,G1⟩,e1,e⟩:=bind_some e
 dsimp only at e
 split at e
 ·rename_i x
  split at e
  ·rename_i hx
   cases e
   refine ha C w Γ σ H _ _ _ Rp e1 fun v H1 R1 ev1 o1 n1=>?_
   have hl:(sgnT x).length=x.cps.size:=by simp[sgnT]
   refine⟨x,o1.inva,hx.1,k _ H1 R1 ev1 ⟨by rw[hl]; exact hx.2,fun L' _ _ H2 ev=>⟨fun i t ht=>?_,?_⟩⟩⟩
   ·have ht':(x.cps.toList[i]?).map (fun c=>T.a (.str ⟨#[c]⟩))=some t:=by rw[← List.getElem?_map]; exact ht
    obtain⟨c,hc,rfl⟩:=zAA ht'
    have hi:i < x.cps.size:=by
     have:=(List.getElem?_eq_some_iff.mp hc).1
     simpa using this
    refine⟨hi,fun y H3 hy=>?_⟩
    obtain⟨rfl,c',hc',rfl⟩:=hy
    have:c'=c:=by
     have e:x.cps.toList[i]?=x.cps[i]?:=by simp
     rw[e,hc']at hc; exact Option.some.inj hc
    subst this
    exact⟨fun _ _ z=>z,Im.atom⟩
   ·show x.cps.size<=_
    rw[hl]; exact Nat.le_refl _
  ·cases e
 ·cases e
section
variable {ι:Type}{K:Fg}{mg:Str->Option Value}{k:Nat}{X:ι->Cx}{fa:DE}{Γ:En}
theorem tr_str:CalR K X (.type "str") strS:=⟨_,fun j=>zF5,zGd⟩
theorem ix_str'{tg l:Expr}(M:Fm K mg k X)(hl:EX K X l fa):IX K X tg l (dStrI fa):=let ⟨t,p,s⟩:=hl; ⟨iStr t,fun j=>zJE (tg:=tg) (p j),zG6 s⟩
@[simp] theorem strS_i{i:Int}:strS Γ [.v (.a (.int i))]=if i.natAbs.log2 < 1920 then some (.v (.a (.str (toString i)))) else none:=(rfl)
@[simp] theorem zDX:dStrI fa Γ=(fa Γ).bind fun p=>match p.1 with
 | .v (.a (.str x))=>if x.cps.all (· < 128)=true/\x.length<=sizeLine then some ((sgnT x,[]),p.2) else none
 | _=>none:=(rfl)
end
end D
namespace L2
open PySem PySem.Spec PyProof.Rows
theorem zFW:typeLookup (.type "str") "__int__"=pure none:=by rw[typeLookup_type,builtinLookup_eq_fast]; kernel_rfl
theorem zEE:typeLookup (.type "str") "__index__"=pure none:=by rw[typeLookup_type,builtinLookup_eq_fast]; kernel_rfl
theorem zD9:typeLookup (.type "str") "__trunc__"=pure none:=by rw[typeLookup_type,builtinLookup_eq_fast]; kernel_rfl
noncomputable def intTail (x:Str) (u:Tok):{m:Sem Value // ∀ i:Int,m=mkInt i->Gives (Builtin.«int.__new__» ⟨[.type "int",.str x u],[]⟩) (.int i)}:=by
 apply Subtype.mk
 intro i hf
 refine .of_wp fun M A E s Q h=>?_
 obtain⟨hp,g,d,tk,os⟩:=s
 have f1:=F.conv_sub_int
 have f2:=F.madeHere_int
 have f3:=zFW
 have f4:=zEE
 have f5:=zD9
 repeat (any_goals (first | assumption | wp_step))
 refine Eq.mpr (congrArg (fun m=>wpAny M A m _ E _) hf) ?_
 repeat (any_goals (first | assumption | wp_step))
 exact⟨_,rfl,h⟩
def figs:List (Str×Int):=[("0",0),("1",1),("2",2),("3",3),("4",4),("5",5),("6",6),("7",7),("8",8),("9",9),("10",10)]
theorem zIJ(u:Tok):∀ p∈figs,(intTail p.1 u).1=mkInt p.2:=by
 intro p hp
 simp only[figs,List.mem_cons,List.not_mem_nil,or_false]at hp
 rcases hp with rfl | rfl | rfl | rfl | rfl | rfl | rfl | rfl | rfl | rfl | rfl <;> kernel_rfl
theorem zFq{X:Cx}:CallR X (.type "int") (fun xs H Q=>∃ p:Str×Int,p∈figs/\xs=[.str p.1]/\Q (.int p.2) H):=by
 intro pins s σ H xs us Q I r h
 obtain⟨p,hp,rfl,q⟩:=h
 obtain⟨u,rfl,t,rfl⟩:=vals1 r
 exact call_int_1 ((intTail p.1 t).2 p.2 (zIJ t p hp)).meets (show (Made.int p.2).post _ s from ⟨rfl,⟨.int p.2,H,I.tok _,⟨_,rfl⟩,q⟩⟩)
end L2
namespace D
open PySem L2
def intTS:En->List S->Option S:=fun _ as=>match as with
 | [.v (.a (.str x))]=>(figs.lookup x).map mkI
 | _=>none
theorem zEu{α:Type}{x:Str}{i:α}:∀ {l:List (Str×α)},l.lookup x=some i->(x,i)∈l
 | [],h=>by cases h
 | (y,j)::r,h=>by
  rw[List.lookup_cons]at h
  split at h
  ·rename_i e
   have:=eq_of_beq e
   cases h; rw[this]; exact List.mem_cons_self
  ·exact List.mem_cons_of_mem _ (zEu h)
theorem zE9{K:Fg}:SimRs K (fun xs H Q=>∃ p:Str×Int,p∈figs/\xs=[.str p.1]/\Q (.int p.2) H) intTS:=by
 intro C w Γ σ H vs as s Q R o e k
 unfold intTS at e
 split at e
 ·rename_i x
  obtain⟨i,e1,e⟩:=zAA e
  cases e
  obtain⟨v,rfl,o1⟩:=soks1 o
  exact⟨(x,i),zEu e1,by rw[o1.inva],k _ H R .refl SOk.atom trivial⟩
 ·cases e
section
variable {ι:Type}{K:Fg}{mg:Str->Option Value}{k:Nat}{X:ι->Cx}{Γ:En}
theorem tr_intT:CalR K X (.type "int") intTS:=⟨_,fun j=>zFq,zE9⟩
@[simp] theorem zLd{x:Str}:intTS Γ [.v (.a (.str x))]=(figs.lookup x).map mkI:=(rfl)
end
end D
namespace L2
open PySem PySem.Spec PyProof.Rows
def oneC(c:Nat):Str:=⟨#[c]⟩
def sgnS(x:Str):List Str:=x.cps.toList.map oneC
theorem zCy{x:Str}{acc:Array Value}(h:ItemsOf (SignAt x) acc x.cps.size):StrsAre acc.toList (sgnS x):=by
 have e:acc.toList.map PyProof.Rows.strOf=sgnS x:=by
  refine List.ext_getElem (by simp[sgnS,h.1]) fun j h1 h2=>?_
  have hj:j < acc.size:=by simpa using h1
  obtain⟨c,u,hc,hv⟩:=h.2 j acc[j] (by simp[hj])
  have hj2:j < x.cps.size:=by rw[h.1]at hj; exact hj
  rw[Array.getElem?_eq_getElem hj2]at hc
  simp only[List.getElem_map,Array.getElem_toList,sgnS]
  rw[hv,← Option.some.inj hc]; rfl
 rw[← e]
 refine strsAre_map _ fun v hv=>?_
 obtain⟨j,hj,rfl⟩:=List.getElem_of_mem hv
 obtain⟨c,u,_,hv⟩:=h.2 j (acc.toList[j]) (by simp at hj ⊢)
 exact⟨_,u,hv⟩
theorem zAx:∀ {us:List Value} {ys:List Str},StrsAre us ys->Vals (strsV ys) us
 | _,_,.nil=>.nil
 | _,_,.cons y t h=>.cons ⟨t,rfl⟩ (zAx h)
theorem zFF{X:Cx}(hc:X.calm=true):CallR X (.type "list") (fun xs H Q=>∃ x,xs=[.str x]/\x.length<=sizeLine/\∀ l,H l=none->Q (.ref l) (upd H l (.lst (strsV (sgnS x))))):=by
 intro pins s σ H xs us Q I r h
 obtain⟨x,rfl,hx,q⟩:=h
 obtain⟨u,rfl,t,rfl⟩:=vals1 r
 refine call_list_str (I.ok.hd hc) x t (fun h' tk acc c' kp e ha=>?_) hx
 have sa:=zCy ha
 exact⟨.ref s.heap.objs.size,_,I.laid (t':=tk) kp (Nat.le_refl _) (show ObjOk X.prog X.w _ h' _ (.lst (strsV (sgnS x))) from ⟨by simp only[strsV,sgnS,List.length_map,Array.length_toList]; exact hx,acc.toList,c',zAx sa,by simpa using e⟩),rfl,q _ (I.hok.fresh (Nat.le_refl _))⟩
theorem zFZ{X:Cx}(hc:X.calm=true):CallR X (.builtin "sorted") (fun xs H Q=>∃ x,xs=[.str x]/\x.length < 64/\∀ l ss,H l=none->ss.Perm (sgnS x)->PyProof.Rows.sortedS ss=true->Q (.ref l) (upd H l (.lst (strsV ss)))):=by
 intro pins s σ H xs us Q I r h
 obtain⟨x,rfl,hx,q⟩:=h
 obtain⟨u,rfl,t,rfl⟩:=vals1 r
 refine Calls.call_function_entry kind_sorted plain_sorted entry_sorted (args_sorted1 _) ?_
 unfold Builtin.«sorted»
 refine wpAny_bind (m:=checkCount "sorted" 1 1 _) (wpAny_pure ?_)
 refine wpAny_bind (wpAny_collect_str (A:=X.A.in1) (by exact I.ok.hd hc) x t (fun s' acc kp hg hd ho ha=>?_) (Nat.le_trans (Nat.le_of_lt hx) (by decide)))
 have sa:=zCy ha
 have hl:acc.toList.length < 64:=by rw[Array.length_toList,ha.1]; exact hx
 refine wpAny_bind (wpAny_newList ?_)
 have hoL:(s'.heap.push (seqObj "list" acc.toList.toArray 0)).get? s'.heap.objs.size=some (seqObj "list" acc.toList.toArray 0):=Heap.get?_push_size _ rfl
 refine wpAny_bind (wpAny_holding (wpAny_call_entry slot_list_sort ⟨_,hoL,rfl⟩ entry_list_sort (list_sort_treeK strKind_oneLt hoL sa.keysOf (fun v₁ v₂ rest e=>keyKind_strs (by rw[← e]; exact sa)) hl fun st' a1 a2=>⟨_,rfl,?_⟩) (args_list_sort _)))
 obtain⟨ss,b1,b2,b3⟩:=sorted_out_str sa a1 a2
 obtain⟨c',e⟩:=sortedHeap_at (out:=(arrOf st').map (·.2)) hoL
 refine wpAny_pure ⟨_,rfl,?_⟩
 obtain⟨h,g,dr,tk,os⟩:=s
 obtain⟨h',g',dr',tk',os'⟩:=s'
 dsimp only at hg hd ho kp e
 subst hg hd ho
 have I1:Inv X pins σ H ⟨h',_,_,tk',_⟩:=I.kept (t':=tk') kp
 have kp2:∀ b o,h'.get? b=some o->(sortedHeap (h'.push (seqObj "list" acc.toList.toArray 0)) h'.objs.size acc.toList ((arrOf st').map (·.2))).get? b=some o:=fun b o eb=>by
  have hlt:=Heap.lt_size eb
  rw[sortedHeap_old (Nat.ne_of_lt hlt) (by rw[size_push']; exact Nat.lt_succ_of_lt hlt),Heap.get?_push_ne _ _ _ (Nat.ne_of_lt hlt)]
  exact eb
 have ln:ss.length<=sizeLine:=by
  rw[b2.length_eq]
  refine Nat.le_trans (Nat.le_of_lt ?_) (show 64<=sizeLine by decide)
  simp only[sgnS,List.length_map,Array.length_toList]; exact hx
 exact⟨.ref h'.objs.size,_,I1.laid (t':=tk') kp2 (Nat.le_refl _) (show ObjOk X.prog X.w _ _ _ (.lst (strsV ss)) from ⟨by simpa [strsV] using ln,((arrOf st').map (·.2)).toList,c',zAx b1,by rw[Array.toArray_toList]; exact e⟩),rfl,q _ ss (I1.hok.fresh (Nat.le_refl _)) b2 b3⟩
def rSplit(K:PySem.W.Frag):V->List V->Hp->VK->Prop:=fun x vs H Q=>∃ z y,x=.str z/\vs=[.str y]/\(y.length == 0)=false/\z.length<=sizeLine/\(Txt.split z y).length<=sizeLine/\∀ l,H l=none->Q (.ref l) (upd H l (.lst (strsV (Txt.split z y))))
theorem zBl:∀ l:List (Str×Tok),Vals (strsV (l.map (·.1))) (strValues l)
 | []=>.nil
 | p::r=>.cons ⟨p.2,rfl⟩ (zBl r)
theorem mt_split{X:Cx}:MtM X "str.split" (rSplit X.K):=by
 intro pins s σ H x' vs v us Q I rx rv h
 obtain⟨x,y,rfl,rfl,hy,hx,hn,q⟩:=h
 obtain⟨t,rfl⟩:=rx
 obtain⟨u',rfl,u,rfl⟩:=rv.one
 have fin:∀ (nl:List (Str×Tok)) (tk:Nat),nl.map (·.1)=Txt.split x y->EP X pins σ Q (.ref s.heap.objs.size) { s with toks:=tk,heap:=s.heap.push { cls:=.type "list",data:=.seq (strValues nl).toArray } }:=fun nl tk e =>
  ⟨.ref s.heap.objs.size,_,I.laid (t':=tk) (fun b o eb=>Heap.get?_push_of_some _ eb) (Nat.le_refl _) (show ObjOk X.prog X.w _ _ _ (.lst (strsV (Txt.split x y))) from ⟨by simpa [strsV] using hn,strValues nl,0,by rw[← e]; exact zBl nl,Heap.get?_push_size _ rfl⟩),rfl,q _ (I.hok.fresh (Nat.le_refl _))⟩
 cases h1:(decide (x.length < y.length) || decide (Builtin.Str.strKind x < Builtin.Str.strKind y))
 ·cases hf:(Builtin.Str.occurrences x y 0 x.length (x.length+1)).isEmpty
  ·have e:Txt.split x y=Builtin.Str.partsBetween x (Builtin.Str.occurrences x y 0 x.length (x.length+1)) y.length:=(if_neg (ne_true_of_eq_false h1)).trans (if_neg (ne_true_of_eq_false hf))
   refine call_meets PySem.F.slot_str_split (typeIs_str _ _ _) PySem.F.entry_str_split (PySem.F.args_str_split_2 _ _) (meets_str_split_sep x y t u h1 hy hf hx (by rw[← e]; exact hn)) ?_
   show wants _ _ _ { s with toks:=_,heap:=s.heap.push { cls:=.type "list",data:=.seq (strsFrom s.toks (Builtin.Str.partsBetween x (Builtin.Str.occurrences x y 0 x.length (x.length+1)) y.length)).toArray } }
   rw[strsFrom_eq]
   exact fin (numbered s.toks _) _ ((numbered_texts _ _).trans e.symm)
  ·exact call_meets PySem.F.slot_str_split (typeIs_str _ _ _) PySem.F.entry_str_split (PySem.F.args_str_split_2 _ _) (meets_str_split_not_found x y t u h1 hy hf) (fin [(x,t)] s.toks ((if_neg (ne_true_of_eq_false h1)).trans (if_pos hf)).symm)
 ·exact call_meets PySem.F.slot_str_split (typeIs_str _ _ _) PySem.F.entry_str_split (PySem.F.args_str_split_2 _ _) (meets_str_split_cannot_occur x y t u h1) (fin [(x,t)] s.toks (if_pos h1).symm)
def sliceT(x:Str)(l u:Option Int):Str :=
 if ((1:Int) == 1 && (Builtin.Str.strSliceIndices l u 1 x.length).length == x.length)=true then x else ⟨((Builtin.Str.strSliceIndices l u 1 x.length).filterMap (x.cps[·]?)).toArray⟩
def rSlStr:V->Option Int->Option Int->Hp->VK->Prop:=fun v lo hi H Q=>∃ x,v=.str x/\(sliceT x lo hi).length<=sizeLine/\Q (.str (sliceT x lo hi)) H
theorem zEi{v:Value}{o:Option Int}(h:IsPart v o):∃ p:Option (Int×Tok),v=partValue p/\p.map (·.1)=o:=by
 cases h with
 | none=>exact⟨none,rfl,rfl⟩
 | int i t=>exact⟨some (i,t),rfl,rfl⟩
theorem zJq{X:Cx}:SlR X rSlStr:=by
 intro pins s σ H v' v vl vu lo hi sl Q I rx hs pl pu h
 obtain⟨x,rfl,hz,q⟩:=h
 obtain⟨t,rfl⟩:=rx
 obtain⟨l,rfl,rfl⟩:=zEi pl
 obtain⟨u,rfl,rfl⟩:=zEi pu
 refine⟨"str",_,PySem.F.slot_str_getitem.lookup,typeIs_str _ _ _,wpAny_getItem_str_slice (l:=l) (u:=u) (st:=none) hs rfl ?_⟩
 unfold sliceT at hz q
 by_cases e:((1:Int) == 1 && (Builtin.Str.strSliceIndices (l.map (·.1)) (u.map (·.1)) 1 x.length).length == x.length)=true
 ·rw[if_pos e]at q
  rw[show sliceMade x t l u none=.val (.str x t) from if_pos e]
  exact⟨.str x,H,I,⟨t,rfl⟩,q⟩
 ·rw[if_neg e]at q hz
  rw[show sliceMade x t l u none=.str ⟨((Builtin.Str.strSliceIndices (l.map (·.1)) (u.map (·.1)) 1 x.length).filterMap (x.cps[·]?)).toArray⟩ from if_neg e]
  exact⟨hz,.str _,H,I.tok _,⟨_,rfl⟩,q⟩
end L2
namespace D
open PySem L2
def strsT(ys:List Str):List T:=ys.map fun y=>.a (.str y)
theorem zAr{K:Fg}{H:Hp}:∀ ys:List Str,Ims K H (strsV ys) (strsT ys)
 | []=>.nil
 | y::r=>.cons Im.atom (zAr r)
def listTS:En->List S->Option S:=fun _ as=>match as with
 | [.v (.a (.str x))]=>if x.length<=sizeLine then some (.l (strsT (sgnS x))) else none
 | _=>none
theorem zEW{K:Fg}:SimRs K (fun xs H Q=>∃ x,xs=[.str x]/\x.length<=sizeLine/\∀ l,H l=none->Q (.ref l) (upd H l (.lst (strsV (sgnS x))))) listTS:=by
 intro C w Γ σ H vs as s Q R o e k
 unfold listTS at e
 split at e
 ·rename_i x
  split at e
  ·rename_i hx
   cases e
   obtain⟨v,rfl,o1⟩:=soks1 o
   exact⟨x,by rw[o1.inva],hx,fun l hl=>k _ _ (R.new hl) (Evo.new hl) (R.newl hl (zAr _)) ⟨l,rfl,hl⟩⟩
  ·cases e
 ·cases e
def sortN(cs:List Nat):List Nat:=(sortI (cs.map fun (c:Nat)=>(c:Int))).map Int.toNat
theorem zCu:∀ {p:Nat} {cs:List Nat},PyProof.Rows.risingS (oneC p) (cs.map oneC)=true->(∀ c∈cs,p<=c)/\cs.Pairwise (·<=·)
 | p,[],_=>⟨fun _ h=>(nomatch h),.nil⟩
 | p,x::r,h=>by
  have h':(!Spec.ltCps [x] [p] && PyProof.Rows.risingS (oneC x) (r.map oneC))=true:=h
  rw[Bool.and_eq_true]at h'
  obtain⟨h1,h2⟩:=h'
  obtain⟨a,b⟩:=zCu h2
  have hx:p<=x:=by
   simp[Spec.ltCps]at h1
   exact h1
  exact⟨fun c hc=>(List.mem_cons.mp hc).elim (fun z=>z ▸ hx) fun z=>Nat.le_trans hx (a c z),.cons a b⟩
theorem zDi{ss:List Str}{cs:List Nat}(h1:ss.Perm (cs.map oneC))(h2:PyProof.Rows.sortedS ss=true):ss=(sortN cs).map oneC:=by
 have hd:∀ s∈ss,oneC (s.cps.toList.headD 0)=s:=fun s hs=>by
  obtain⟨c,_,rfl⟩:=List.mem_map.mp (h1.mem_iff.mp hs)
  rfl
 obtain⟨ds,e⟩:∃ ds:List Nat,ss=ds.map oneC:=⟨ss.map fun s=>s.cps.toList.headD 0,by
  rw[List.map_map]
  exact (List.map_id ss).symm.trans (List.map_congr_left fun s hs=>(hd s hs).symm)⟩
 subst e
 have p:ds.Perm cs:=by
  have:=h1.map (fun s:Str=>s.cps.toList.headD 0)
  rw[List.map_map,List.map_map]at this
  have e:((fun s:Str=>s.cps.toList.headD 0) ∘ oneC)=id:=funext fun _=>rfl
  rw[e,List.map_id,List.map_id]at this
  exact this
 have so:ds.Pairwise (·<=·):=by
  cases ds with
  | nil=>exact .nil
  | cons d r=>obtain⟨a,b⟩:=zCu (show PyProof.Rows.risingS (oneC d) (r.map oneC)=true from h2); exact .cons a b
 have e:ds.map (fun (c:Nat)=>(c:Int))=sortI (cs.map fun (c:Nat)=>(c:Int)) :=
  zCH ((p.map _).trans (zA5 _).symm) (by rw[List.pairwise_map]; exact so.imp fun h=>by omega) (zBQ _)
 unfold sortN
 have e2:(ds.map fun (c:Nat)=>(c:Int)).map Int.toNat=ds:=by rw[List.map_map]; exact (List.map_congr_left fun _ _=>rfl).trans (List.map_id ds)
 rw[← e,e2]
def sortXS:En->List S->Option S:=fun _ as=>match as with
 | [.v (.a (.str x))]=>if x.length < 64 then some (.l (strsT ((sortN x.cps.toList).map oneC))) else none
 | _=>none
theorem zEP{K:Fg}:SimRs K (fun xs H Q=>∃ x,xs=[.str x]/\x.length < 64/\∀ l ss,H l=none->ss.Perm (sgnS x)->PyProof.Rows.sortedS ss=true->Q (.ref l) (upd H l (.lst (strsV ss)))) sortXS:=by
 intro C w Γ σ H vs as s Q R o e k
 unfold sortXS at e
 split at e
 ·rename_i x
  split at e
  ·rename_i hx
   cases e
   obtain⟨v,rfl,o1⟩:=soks1 o
   exact⟨x,by rw[o1.inva],hx,fun l ss hl h1 h2=>k _ _ (R.new hl) (Evo.new hl) (R.newl hl (by rw[zDi h1 h2]; exact zAr _)) ⟨l,rfl,hl⟩⟩
  ·cases e
 ·cases e
def splitS:En->List S->Option S:=fun _ as=>match as with
 | [.v (.a (.str z)),.v (.a (.str y))]=>if (y.length == 0)=false/\z.length<=sizeLine/\(Txt.split z y).length<=sizeLine then some (.l (strsT (Txt.split z y))) else none
 | _=>none
theorem sims_split{K:Fg}:SimRs K (rSM (rSplit K)) splitS:=by
 intro C w Γ σ H vs as s Q R o e k
 unfold splitS at e
 split at e
 ·rename_i z y
  split at e
  ·rename_i h
   cases e
   match vs,o with
   | [a,b],o =>
    have ha:a=.str z:=(show Im K H a _ from o.1).inva
    have hb:b=.str y:=(show Im K H b _ from o.2.1).inva
    exact⟨z,y,ha,by rw[hb],h.1,h.2.1,h.2.2,fun l hl=>k _ _ (R.new hl) (Evo.new hl) (R.newl hl (zAr _)) ⟨l,rfl,hl⟩⟩
   | [],o=>exact o.elim
   | [x],o=>exact o.2.elim
   | x::y::w::l,o=>exact o.2.2.elim
  ·cases e
 ·cases e
def dSlT(f:DE)(lo hi:DO):DE:=fun Γ=>(f Γ).bind fun p=>(lo p.2).bind fun l=>(hi l.2).bind fun h=>match p.1 with
 | .v (.a (.str x))=>if (sliceT x l.1 h.1).length<=sizeLine then some (.v (.a (.str (sliceT x l.1 h.1))),h.2) else none
 | _=>none
theorem zH9{K:Fg}{te:TE}{f:DE}{tl th:TO}{lo hi:DO}(he:SimE K te f)(hl:SimO K tl lo)(hh:SimO K th hi):SimE K (tSl rSlStr te tl th) (dSlT f lo hi):=by
 intro C w Γ σ H s Γ' Q R e k
 obtain⟨⟨a,G1⟩,e1,e⟩:=bind_some e
 obtain⟨⟨i,G2⟩,e2,e⟩:=bind_some e
 obtain⟨⟨j,G3⟩,e3,e⟩:=bind_some e
 dsimp only at e
 split at e
 ·split at e
  ·rename_i hz
   cases e
   refine he C w Γ σ H _ _ _ R e1 fun v H1 R1 ev1 o1 n1=>?_
   refine hl C w _ σ H1 _ _ _ R1 e2 fun H2 R2 ev2=>?_
   refine hh C w _ σ H2 _ _ _ R2 e3 fun H3 R3 ev3=>?_
   exact⟨_,o1.inva,hz,k _ H3 R3 ((ev1.trans ev2).trans ev3) SOk.atom trivial⟩
  ·cases e
 ·cases e
abbrev DJ:=Str->En->Option (Str×En)
section
variable {ι:Type}{K:Fg}{mg:Str->Option Value}{k:Nat}{X:ι->Cx}{fa:DE}{Γ:En}{e e2 a:Expr}{es:List Expr}{g:DJ}{pos:Pos}
theorem tr_listT(M:Fm K mg k X):CalR K X (.type "list") listTS:=⟨_,fun j=>zFF (M.calm j),zEW⟩
theorem br_sortX(M:Fm K mg k X):CalR K X (.builtin "sorted") sortXS:=⟨_,fun j=>zFZ (M.calm j),zEP⟩
theorem ex_slT{lo hi:Option Expr}{p2:Pos}{dl dh:DO}(ha:EX K X a fa)(hl:OX K X lo dl)(hh:OX K X hi dh):EX K X (.Subscript a (.Slice lo hi none p2) pos) (dSlT fa dl dh) :=
 let ⟨_,p,s⟩:=ha; let ⟨_,q,u⟩:=hl; let ⟨_,q',u'⟩:=hh; ⟨_,fun j=>zDv zJq (p j) (q j) (q' j),zH9 s u u'⟩
end
section
variable {f:DE}{g:DJ}{Γ:En}{acc x z y:Str}{lo hi:DO}
@[simp] theorem zAu:listTS Γ [.v (.a (.str x))]=if x.length<=sizeLine then some (.l (strsT (sgnS x))) else none:=(rfl)
@[simp] theorem zBw:sortXS Γ [.v (.a (.str x))]=if x.length < 64 then some (.l (strsT ((sortN x.cps.toList).map oneC))) else none:=(rfl)
@[simp] theorem splitS_s:splitS Γ [.v (.a (.str z)),.v (.a (.str y))]=if (y.length == 0)=false/\z.length<=sizeLine/\(Txt.split z y).length<=sizeLine then some (.l (strsT (Txt.split z y))) else none:=(rfl)
@[simp] theorem zEm:dSlT f lo hi Γ=(f Γ).bind fun p=>(lo p.2).bind fun l=>(hi l.2).bind fun h=>match p.1 with
 | .v (.a (.str x))=>if (sliceT x l.1 h.1).length<=sizeLine then some (.v (.a (.str (sliceT x l.1 h.1))),h.2) else none
 | _=>none:=(rfl)
end
end D
namespace L2
open PySem PySem.Spec PyProof.Rows
theorem zCM:∀ {ys:List Str} {us:List Value},Vals (strsV ys) us->StrsAre us ys
 | [],_,.nil=>.nil
 | y::r,_,.cons ⟨t,e⟩ h=>by rw[e]; exact .cons y t (zCM h)
section
variable {prog:Program}{w:World}{A:Around}{E:Value->Shared->Prop}{s:Shared}
theorem zEN{it:Addr}{T:String}{o:Obj}{vs:List Value}{ns:List Str}{n:Nat}{Q:Value->Shared->Prop}(hT:T="list"\/T="tuple")(ho:s.heap.get? it=some o)(hc:o.cls=.type T)(hd:o.data=.seq vs.toArray n)(hI:StrsAre vs ns)(h64:vs.length < 64)
  (h:∀ (h1 h':Heap) (out:Array Value) (e:Nat) (ns':List Str),(∀ b o,s.heap.get? b=some o->h1.get? b=some o)->(∀ b o,h1.get? b=some o->h'.get? b=some o)->h'.get? h1.objs.size=some (seqObj "list" out e)->StrsAre out.toList ns'->ns'.Perm ns->PyProof.Rows.sortedS ns'=true->Q (.ref h1.objs.size) { s with heap:=h' }) :
  wpAny (model prog w) A (call (.builtin "sorted") [.ref it]) Q E s:=by
 refine Calls.call_function_entry kind_sorted plain_sorted entry_sorted (args_sorted1 _) ?_; unfold Builtin.«sorted»; refine wpAny_bind (m:=checkCount "sorted" 1 1 _) (wpAny_pure ?_)
 refine wpAny_bind (wpAny_collect_seq it hT ho hc hd (fun h1 hk1=>?_) (by rw[List.size_toArray,sizeLine_eq]; omega))
 refine wpAny_bind (wpAny_newList ?_)
 have hoL:(h1.push (seqObj "list" vs.toArray 0)).get? h1.objs.size=some (seqObj "list" vs.toArray 0):=Heap.get?_push_size _ rfl
 show wpAny _ _ _ _ _ { s with heap:=h1.push (seqObj "list" vs.toArray 0) }
 refine wpAny_bind (wpAny_holding (wpAny_call_entry slot_list_sort ⟨_,hoL,rfl⟩ entry_list_sort (list_sort_treeK strKind_oneLt hoL hI.keysOf (fun v₁ v₂ rest e=>keyKind_strs (by rw[← e]; exact hI)) h64 fun st' a1 a2=>⟨_,rfl,?_⟩) (args_list_sort _)))
 obtain⟨ss,b1,b2,b3⟩:=sorted_out_str hI a1 a2
 obtain⟨e,he⟩:=sortedHeap_at (out:=(arrOf st').map (·.2)) hoL
 refine wpAny_pure ⟨_,rfl,h h1 _ _ e ss hk1 (fun b ob q=>?_) he b1 b2 b3⟩
 have hlt:=Heap.lt_size q
 rw[sortedHeap_old (Nat.ne_of_lt hlt) (by rw[size_push']; exact Nat.lt_succ_of_lt hlt)]
 exact Heap.get?_push_of_some _ q
end
theorem zFj{X:Cx}:CallR X (.builtin "sorted") (fun xs H Q=>∃ (p:Addr) (cs:List Nat),xs=[.ref p]/\(SqL X.K H p (strsV (cs.map oneC))\/SqT X.K H p (strsV (cs.map oneC)))/\cs.length < 64/\∀ (l:Addr) (ss:List Str),H l=none->ss.Perm (cs.map oneC)->PyProof.Rows.sortedS ss=true->Q (.ref l) (upd H l (.lst (strsV ss)))):=by
 intro pins s σ H xs us Q I r h
 obtain⟨p,cs,rfl,hq,hl,q⟩:=h
 obtain⟨u,rfl,rx⟩:=vals1 r
 cases rx
 have go:∀ (T:String) (o:Obj) (its:List Value) (n:Nat),(T="list"\/T="tuple")->s.heap.get? p=some o->o.cls=.type T->o.data=.seq its.toArray n->Vals (strsV (cs.map oneC)) its->wpAny (model X.prog X.w) X.A (call (.builtin "sorted") [.ref p]) (EP X pins σ Q) X.xe s:=fun T o its n hT ho hc hd rv=>by
  have hlen:=rv.length
  simp only[strsV,List.length_map]at hlen
  refine zEN hT ho hc hd (zCM rv) (by omega) fun h1 h' out e ns' k1 k2 he hI hp hs=>?_
  have I1:Inv X pins σ H { s with heap:=h1 }:=I.kept (t':=s.toks) k1
  have hl':ns'.length < 64:=by rw[hp.length_eq,List.length_map]; exact hl
  exact⟨.ref h1.objs.size,_,I1.laid (t':=s.toks) k2 (Nat.le_refl _) (show ObjOk X.prog X.w _ h' _ (.lst _) from ⟨by simp only[strsV,List.length_map]; rw[sizeLine_eq]; omega,out.toList,e,zAx hI,by simpa [seqObj] using he⟩),rfl,q _ ns' (I1.hok.fresh (Nat.le_refl _)) hp hs⟩
 rcases hq with hq | hq
 ·obtain⟨its,rv,⟨o,n,e,c,_,d⟩,_⟩:=I.list hq
  exact go "list" o its n (.inl rfl) e c d rv
 ·obtain⟨its,rv,⟨o,e,c,n,d⟩,_⟩:=I.tuple hq
  exact go "tuple" o its n (.inr rfl) e c d rv
end L2
namespace D
open PySem L2
def signsOf:List T->Option (List Nat)
 | []=>some []
 | .a (.str y)::r=>match y.cps.toList with
  | [c]=>(signsOf r).map fun cs=>c::cs
  | _=>none
 | _::_=>none
theorem zIx{y:Str}{c:Nat}(h:y.cps.toList=[c]):y=oneC c:=by
 obtain⟨a⟩:=y
 have:a=#[c]:=by rw[← Array.toArray_toList (xs:=a)]; exact congrArg List.toArray h
 rw[this]; rfl
theorem zCJ:∀ {xs:List T} {cs:List Nat},signsOf xs=some cs->xs=strsT (cs.map oneC)
 | [],cs,e=>by cases e; rfl
 | x::r,cs,e=>by
  unfold signsOf at e
  split at e
  ·rename_i h; cases h
  ·rename_i y r' h
   cases h
   split at e
   ·rename_i c hc
    obtain⟨ms,e1,e⟩:=zAA e
    subst e
    rw[zCJ e1,zIx hc]; rfl
   ·cases e
  ·cases e
theorem zC1:∀ cs:List Nat,signsOf (strsT (cs.map oneC))=some cs
 | []=>rfl
 | c::r=>by
  show (signsOf (strsT (r.map oneC))).map (fun cs=>c::cs)=_
  rw[zC1 r]; rfl
def sortLS:En->List S->Option S:=fun Γ as=>match as with
 | [a]=>(seqS Γ a).bind fun xs=>(signsOf xs).bind fun cs=>if cs.length < 64 then some (.l (strsT ((sortN cs).map oneC))) else none
 | _=>none
theorem zII(ys:List Str):strsT ys=(strsV ys).map T.a:=by simp[strsT,strsV]
theorem zEa{K:Fg}:SimRs K (fun xs H Q=>∃ (p:Addr) (cs:List Nat),xs=[.ref p]/\(SqL K H p (strsV (cs.map oneC))\/SqT K H p (strsV (cs.map oneC)))/\cs.length < 64/\∀ (l:Addr) (ss:List Str),H l=none->ss.Perm (cs.map oneC)->PyProof.Rows.sortedS ss=true->Q (.ref l) (upd H l (.lst (strsV ss)))) sortLS:=by
 intro C w Γ σ H vs as s Q R o e k
 unfold sortLS at e
 split at e
 ·obtain⟨xs,e1,e⟩:=bind_some e
  obtain⟨cs,e2,e⟩:=bind_some e
  split at e
  ·rename_i hl
   cases e
   obtain⟨v,rfl,o1⟩:=soks1 o
   obtain⟨p,us,rfl,h1,i1⟩:=zFo R o1 e1
   have hu:us=strsV (cs.map oneC):=by rw[zCJ e2,zII]at i1; exact i1.of_atoms
   subst hu
   exact⟨p,cs,rfl,h1,hl,fun l ss hl' hp hs=>k _ _ (R.new hl') (Evo.new hl') (R.newl hl' (by rw[zDi hp hs]; exact zAr _)) ⟨l,rfl,hl'⟩⟩
  ·cases e
 ·cases e
section
variable {ι:Type}{K:Fg}{X:ι->Cx}{mg:Str->Option Value}{k:Nat}
theorem br_sortL(M:Fm K mg k X):CalR K X (.builtin "sorted") sortLS:=⟨_,fun j=>by have:=zFj (X:=X j); rw[M.K j]at this; exact this,zEa⟩
end
theorem zHS{Γ:En}{cs:List Nat}:sortLS Γ [.l (strsT (cs.map oneC))]=if cs.length < 64 then some (.l (strsT ((sortN cs).map oneC))) else none:=by
 show ((signsOf (strsT (cs.map oneC))).bind fun cs=>if cs.length < 64 then some (S.l (strsT ((sortN cs).map oneC))) else none)=_
 rw[zC1]; rfl
end D
namespace L2
open PySem PySem.Spec PyProof.Rows
section
variable {P:Program}{w:World}{K:PySem.W.Frag}{mg:Str->Option Value}{base:Heap}{N:List Str}{qual:Str}{scope:Scope}{f:Addr}{cd:Value}{A:Around}{outer:List Env}{s₀:Shared}{H₀:Hp}{E:XK}
def tCallX(sp:Sp)(E:XK)(t:TA):TE:=fun σ H Q=>t σ H fun vs H1=>sp vs H1 Q E
theorem zHt{x:Str}{p pos:Pos}{e:Expr}{es:List Expr}{t:TA}{f':Addr}{fd:FuncData}{ps:List Str}{sp:Sp}{k:Nat}(F:FnOk P w K mg base (CXR P w) k f' fd ps sp)(hr:Room k (cxOf (CXR P w) P w K mg base N qual scope f cd A outer s₀ H₀ E).A)
  (hg:Gl (cxOf (CXR P w) P w K mg base N qual scope f cd A outer s₀ H₀ E) x) (hm:mg x=some (.ref f')) (hk:PySem.W.keepIn K (.ref f')=true) (hb:Binds K fd ps [])
  (ha:∀ E',PA ((cxOf (CXR P w) P w K mg base N qual scope f cd A outer s₀ H₀ E).on E') (e::es) t) (hdb:(x == ("__debug__":Str))=false)
  (he:starEach (e::es) (cxOf (CXR P w) P w K mg base N qual scope f cd A outer s₀ H₀ E).env=(false,eval e (cxOf (CXR P w) P w K mg base N qual scope f cd A outer s₀ H₀ E).env)::starEach es (cxOf (CXR P w) P w K mg base N qual scope f cd A outer s₀ H₀ E).env) (hpl:(backTo pos (starEach es (cxOf (CXR P w) P w K mg base N qual scope f cd A outer s₀ H₀ E).env)).any (·.1)=false) :
  PE (cxOf (CXR P w) P w K mg base N qual scope f cd A outer s₀ H₀ E) (.Call (.Name x p) (e::es) [] pos) (tCallX sp E t):=by
 intro pins s σ H Q I h
 refine wpAny_mono (zE6 (W:=E) (Q:=Q) F hr hg hm hk hb ha hdb he hpl I h) (fun v s1 z=>z) fun e' s1 z=>?_
 obtain⟨H1,s0,I1,c⟩:=z
 exact zEU I1 c
end
end L2
namespace D
open PySem L2
abbrev Xv:=(Str×List (Str×V))×En
abbrev DEX:=En->Option (Except Xv (S×En))
abbrev DAX:=En->Option (Except Xv (List S×En))
def OkR(K:Fg)(C:Fr)(w:W)(E:XK)(σ:St)(H:Hp)(Q:VK):Except Xv (S×En)->Prop
 | .ok p=>∀ v H',Rep K C w p.2 σ H'->Evo w.L H H'->SOk K C w σ H' v p.1->Nw H v p.1->Q v H'
 | .error z=>∀ H',Rep K C w z.2 σ H'->XiE K E z.1.1 z.1.2 H'
def OkRs(K:Fg)(C:Fr)(w:W)(E:XK)(σ:St)(H:Hp)(Q:List V->Hp->Prop):Except Xv (List S×En)->Prop
 | .ok p=>∀ vs H',Rep K C w p.2 σ H'->Evo w.L H H'->SOks K C w σ H' vs p.1->Nws H vs p.1->Q vs H'
 | .error z=>∀ H',Rep K C w z.2 σ H'->XiE K E z.1.1 z.1.2 H'
def SimEX(K:Fg)(E:XK)(te:TE)(f:DEX):Prop:=∀ (C:Fr) (w:W) (Γ:En) (σ:St) (H:Hp) (r:Except Xv (S×En)) (Q:VK),Rep K C w Γ σ H->f Γ=some r->OkR K C w E σ H Q r->te σ H Q
def SimAX(K:Fg)(E:XK)(ta:TA)(f:DAX):Prop:=∀ (C:Fr) (w:W) (Γ:En) (σ:St) (H:Hp) (r:Except Xv (List S×En)) (Q:List V->Hp->Prop),Rep K C w Γ σ H->f Γ=some r->OkRs K C w E σ H Q r->ta σ H Q
section
variable {K:Fg}{E:XK}{n:Nat}{F:DF}
def dPl(f:DE):DEX:=fun Γ=>(f Γ).map .ok
theorem zDT{te:TE}{f:DE}(h:SimE K te f):SimEX K E te (dPl f):=by
 intro C w Γ σ H r Q R e k
 obtain⟨p,e1,e⟩:=zAA e
 subst e
 exact h C w Γ σ H p.1 p.2 Q R e1 k
def dCallX(n:Nat)(F:DF)(fa:DA):DEX:=fun Γ=>(fa Γ).bind fun p=>(argsG none p.2 0 p.1).bind fun gs=>if gs.length=n then (F gs).bind fun q=>match q.1 with
 | .v (.x c fs)=>some (.error ((c,fs),p.2))
 | .v t=>some (.ok (.v t,p.2))
 | _=>none else none
theorem zCQ{t:TA}{fa:DA}(ha:SimA K t fa):SimEX K E (tCallX (spX K n F) E t) (dCallX n F fa):=by
 intro C w Γ σ H o Q R e k
 obtain⟨⟨ss,Γ1⟩,e1,e⟩:=bind_some e
 obtain⟨gs,e2,e⟩:=bind_some e
 dsimp only at e e2
 split at e
 rotate_left
 ·cases e
 rename_i hn
 obtain⟨⟨r,ys⟩,e3,e⟩:=bind_some e
 refine ha C w Γ σ H ss Γ1 _ R e1 fun vs H1 R1 ev1 o1 _=>?_
 have Rc:=zGv R1 o1 e2
 refine⟨by rw[o1.len,← zAz e2]; exact hn,⟨[],fun q=>∃ o,H1 q=some o⟩,gs,r,ys,rfl,e3,Rc,fun z hz H' ext=>?_,fun hz v H' ext hr=>?_⟩
 ·dsimp only at e
  have:=zI2 hz
  subst this
  cases e
  exact k H' (R1.evo0 ext)
 ·dsimp only at e
  split at e
  ·cases hz
  ·cases e
   exact k v H' (R1.evo0 ext) (ev1.trans fun b o eb _=>ext b o eb) (show Im K H' v _ from hr) trivial
  ·cases e
def dNilX:DAX:=fun Γ=>some (.ok ([],Γ))
theorem zCz:SimAX K E tNil dNilX:=by
 intro C w Γ σ H r Q R e k
 cases e
 exact k [] H R .refl trivial trivial
def dConsX(f:DEX)(g:DAX):DAX:=fun Γ=>(f Γ).bind fun r=>match r with
 | .error z=>some (.error z)
 | .ok p=>(g p.2).map fun r=>match r with
  | .error z=>.error z
  | .ok q=>.ok (p.1::q.1,q.2)
theorem zCB{ta:TE}{tr:TA}{fa:DEX}{fr:DAX}(ha:SimEX K E ta fa)(hr:SimAX K E tr fr):SimAX K E (tCons ta tr) (dConsX fa fr):=by
 intro C w Γ σ H r Q R e k
 obtain⟨r1,e1,e⟩:=bind_some e
 refine ha C w Γ σ H r1 _ R e1 ?_
 cases r1 with
 | error z=>cases e; exact k
 | ok p =>
  obtain⟨r2,e2,e⟩:=zAA e
  intro v1 H1 R1 ev1 o1 n1
  refine hr C w p.2 σ H1 r2 _ R1 e2 ?_
  cases r2 with
  | error z=>cases e; exact k
  | ok q =>
   cases e
   exact fun vs H2 R2 ev2 o2 n2=>k (v1::vs) H2 R2 (ev1.trans ev2) ⟨o1.evo ev2 R1.lst,o2⟩ ⟨n1,n2.back ev1 R1.lst⟩
def dTupX(g:DAX):DEX:=fun Γ=>(g Γ).bind fun r=>match r with
 | .error z=>some (.error z)
 | .ok p=>(trees p.1).bind fun ts=>gd ts.length (.ok (.v (.t ts),p.2))
theorem zDF{ta:TA}{fa:DAX}(ha:SimAX K E ta fa):SimEX K E (tTup ta) (dTupX fa):=by
 intro C w Γ σ H r Q R e k
 obtain⟨r1,e1,e⟩:=bind_some e
 refine ha C w Γ σ H r1 _ R e1 ?_
 cases r1 with
 | error z=>cases e; exact k
 | ok p =>
  obtain⟨ts,e2,e⟩:=bind_some e
  obtain⟨hn,e⟩:=zAZ e
  cases e
  intro vs H1 R1 ev1 o1 _
  have hi:=zBF o1 e2
  exact⟨by rw[hi.len]; exact hn,fun q hq=>k _ _ (R1.new hq) (ev1.trans (Evo.new hq)) (R1.newt hq hi) trivial⟩
def dRetX(f:DEX):DS:=fun Γ=>(f Γ).bind fun r=>match r with
 | .error z=>some (.rt (.v (.x z.1.1 z.1.2)) z.2)
 | .ok p=>match isXs p.1 with
  | some _=>none
  | none=>some (.rt p.1 p.2)
theorem zHY{te:TE}{f:DEX}(h:SimEX K E te f):SimX K E (tRet te) (dRetX f):=by
 intro C w Γ σ H D o hp R e k
 obtain⟨r,e1,e⟩:=bind_some e
 refine h C w Γ σ H r _ R e1 ?_
 cases r with
 | error z=>cases e; exact fun H' R'=>k.1 z.1 rfl w σ H' R'
 | ok p =>
  dsimp only at e
  split at e
  ·cases e
  ·rename_i hz
   cases e
   exact fun v H1 R1 _ o1 _=>k.2 hz w σ H1 v R1 o1
def dSetX(i:Nat)(f:DEX):DS:=fun Γ=>(f Γ).bind fun r=>match r with
 | .error z=>some (.rt (.v (.x z.1.1 z.1.2)) z.2)
 | .ok p=>(setS i p.1 p.2).map .nx
theorem zD8{te:TE}{f:DEX}{i:Nat}(h:SimEX K E te f):SimX K E (tAsg te (gName i)) (dSetX i f):=by
 intro C w Γ σ H D o hp R e k
 obtain⟨r,e1,e⟩:=bind_some e
 refine h C w Γ σ H r _ R e1 ?_
 cases r with
 | error z=>cases e; exact fun H' R'=>k.1 z.1 rfl w σ H' R'
 | ok p =>
  obtain⟨Γ1,e2,e⟩:=zAA e
  subst e
  intro v H1 R1 _ o1 _
  obtain⟨w',R'⟩:=zCZ R1 o1 e2 (zAM hp (fun z=>by cases z))
  exact k w' _ H1 R'
end
def EXX{ι:Type}(K:Fg)(E:XK)(X:ι->Cx)(e:Expr)(f:DEX):Prop:=∃ t,(∀ j,PE (X j) e t)/\SimEX K E t f
def AXX{ι:Type}(K:Fg)(E:XK)(X:ι->Cx)(es:List Expr)(f:DAX):Prop:=∃ t,(∀ j,PA (X j) es t)/\SimAX K E t f
section
variable {ι:Type}{P:Program}{wd:World}{base:Heap}{K:Fg}{mg:Str->Option Value}{E:XK}{k k' n:Nat}{X:ι->Cx}{e:Expr}{es:List Expr}{fa:DE}{fx:DEX}{gx:DAX}{pos:Pos}{x:Str}
theorem ex_call0{ip:Option Nat}{F:DF}{p:Pos}(M:Fm K mg k X)(B:Fb P wd base X)(D0:FD P wd K mg base k' x ip n F)(hk:k'<=k:=by first | exact Nat.le_refl _ | decide | omega)(hg:∀ j,Gl (X j) x:=by intro _; rfl)(hdb:(x == ("__debug__":Str))=false:=by decide):EX K X (.Call (.Name x p) [] [] pos) (dCall ip F [] qQ):=by
 obtain⟨f,fd,ps,h1,h2,h3,h4⟩:=D0.ex
 refine⟨tCall (spD K ip n F) [] E0 tNil,fun j=>?_,zB3 D0.len zEp⟩
 have hF:FnOk (X j).prog (X j).w (X j).K (X j).mg (X j).base CX0 k' f fd ps (spD K ip n F):=by rw[B.P,B.w,M.K,M.mg,B.b]; exact h1
 exact zHf hF ((M.room j).mono hk) (hg j) (by rw[M.mg]; exact h2) (by rw[M.K]; exact h3) (by rw[M.K]; exact h4) .nil pass0 hdb
theorem exx_plain(h:EX K X e fa):EXX K E X e (dPl fa):=let ⟨_,p,s⟩:=h; ⟨_,p,zDT s⟩
theorem axx_nil:AXX K E X [] dNilX:=⟨_,fun j=>zBL,zCz⟩
theorem axx_cons(ha:EXX K E X e fx)(hr:AXX K E X es gx)(hs:∀ j,starEach (e::es) (X j).env=(false,eval e (X j).env)::starEach es (X j).env:=by intro _; rfl):AXX K E X (e::es) (dConsX fx gx) :=
 let ⟨_,p,s⟩:=ha; let ⟨_,q,u⟩:=hr; ⟨_,fun j=>zBc (p j) (q j) (hs j),zCB s u⟩
theorem exx_tup{x1}(h:AXX K E X es gx):EXX K E X (.Tuple es x1 pos) (dTupX gx):=let ⟨_,p,s⟩:=h; ⟨_,fun j=>zFx (p j),zDF s⟩
theorem sxx_ret(h:EXX K E X e fx):SXX K E X (.Return (some e) pos) (dRetX fx):=let ⟨_,p,s⟩:=h; ⟨_,fun j=>zFy (p j),zHY s⟩
theorem sxx_set(i:Nat){pos':Pos}(h:EXX K E X e fx)(hN:∀ j,(X j).N.Nodup:=by intro _; show (List.Nodup _); decide +kernel)(hx':∀ j,(X j).N[i]?=some x:=by intro _; rfl)(hx:∀ j,Loc (X j).env.scope x:=by intro _; first | exact Or.inl rfl | exact Or.inr rfl)
  (hs:∀ j,swapsWith e (some (.Name x pos')) pos.line (X j).env=pure false:=by intro _; rfl) (hf:∀ j,(X j).fn x=true\/(X j).env.scope.names.lookup x=some .local:=by intro _; first | exact .inl rfl | exact .inr rfl):SXX K E X (.Assign [.Name x pos'] e pos) (dSetX i fx) :=
 let ⟨_,p,s⟩:=h; ⟨_,fun j=>zGu (hN j) (hx' j) (hx j) (p j) (hs j) (hf j),zD8 s⟩
end
section
variable {P:Program}{wd:World}{base:Heap}{K:Fg}{mg:Str->Option Value}{E:XK}{k k' n:Nat}{N:List Str}{qual:Str}{sc:Scope}{f:Addr}{cdv:Value}{A:Around}{outer:List Env}{s:Shared}{H:Hp}{e:Expr}{es:List Expr}{da:DA}{F:DF}{x:Str}{p pos:Pos}
theorem exx_call(M:Fm K mg k (cxR P wd K mg base N qual sc f cdv A outer s H E))(G:FX P wd K mg base k' x n F)(ha:AX K (onF (cxR P wd K mg base N qual sc f cdv A outer s H E)) (e::es) da)(hk:k'<=k:=by first | exact Nat.le_refl _ | decide | omega)
  (hg:Gl ((cxR P wd K mg base N qual sc f cdv A outer s H E) ()) x:=by rfl) (hdb:(x == ("__debug__":Str))=false:=by decide)
  (he:starEach (e::es) ((cxR P wd K mg base N qual sc f cdv A outer s H E) ()).env=(false,eval e ((cxR P wd K mg base N qual sc f cdv A outer s H E) ()).env)::starEach es ((cxR P wd K mg base N qual sc f cdv A outer s H E) ()).env:=by rfl) (hpl:(backTo pos (starEach es ((cxR P wd K mg base N qual sc f cdv A outer s H E) ()).env)).any (·.1)=false:=by rfl) :
  EXX K E (cxR P wd K mg base N qual sc f cdv A outer s H E) (.Call (.Name x p) (e::es) [] pos) (dCallX n F da):=by
 obtain⟨t,pa,sa⟩:=ha
 obtain⟨f',fd,ps,h1,h2,h3,h4⟩:=G.ex
 exact⟨_,fun j=>zHt h1 ((M.room ()).mono hk) hg h2 h3 h4 (fun E'=>pa ((),E')) hdb he hpl,zCQ sa⟩
end
section
variable {Γ:En}{f:DE}{fx:DEX}{gx:DAX}{n i:Nat}{F:DF}{fa:DA}
@[simp] theorem zNX:dPl f Γ=(f Γ).map .ok:=(rfl)
@[simp] theorem zKO:dCallX n F fa Γ=(fa Γ).bind fun p=>(argsG none p.2 0 p.1).bind fun gs=>if gs.length=n then (F gs).bind fun q=>match q.1 with
 | .v (.x c fs)=>some (.error ((c,fs),p.2))
 | .v t=>some (.ok (.v t,p.2))
 | _=>none else none:=(rfl)
@[simp] theorem zKn:dNilX Γ=some (.ok ([],Γ)):=(rfl)
@[simp] theorem zKV:dConsX fx gx Γ=(fx Γ).bind fun r=>match r with
 | .error z=>some (.error z)
 | .ok p=>(gx p.2).map fun r=>match r with
  | .error z=>.error z
  | .ok q=>.ok (p.1::q.1,q.2):=(rfl)
@[simp] theorem zKd:dTupX gx Γ=(gx Γ).bind fun r=>match r with
 | .error z=>some (.error z)
 | .ok p=>(trees p.1).bind fun ts=>gd ts.length (.ok (.v (.t ts),p.2)):=(rfl)
@[simp] theorem zK1:dRetX fx Γ=(fx Γ).bind fun r=>match r with
 | .error z=>some (.rt (.v (.x z.1.1 z.1.2)) z.2)
 | .ok p=>match isXs p.1 with
  | some _=>none
  | none=>some (.rt p.1 p.2):=(rfl)
@[simp] theorem zLE:dSetX i fx Γ=(fx Γ).bind fun r=>match r with
 | .error z=>some (.rt (.v (.x z.1.1 z.1.2)) z.2)
 | .ok p=>(setS i p.1 p.2).map .nx:=(rfl)
end
end D
namespace L2
open PySem PySem.Spec PyProof.Rows
theorem zCY{e:Value}{env env':Env}(h:env'.frame=env.frame):noteFrame e env'=noteFrame e env:=by unfold noteFrame PySem.frameOf; rw[h]
theorem Ch.refl{l S:List Addr}{h:Heap}:Ch l S h h:=⟨fun _ _ _ _ q=>q,fun _ o _ q=>⟨o.slots,q⟩⟩
theorem Ch.but{l S:List Addr}{C:Addr}{h h':Heap}(x:Heap.SameBut C h h')(hC:C∈S):Ch l S h h':=by
 have k:∀ b o,b∉S->h.get? b=some o->h'.get? b=some o:=fun b o n q=>(x.2 b fun z=>n (z ▸ hC)).trans q
 exact⟨fun b o _ n q=>k b o n q,fun b o n q=>⟨o.slots,k b o n q⟩⟩
theorem zEw{h h' base:Heap}:∀ {l:List Env},(∀ b∈frs l,∀ o,h.get? b=some o->∃ o',h'.get? b=some o'/\o'.data=o.data)->h.FunFrames base l->h'.FunFrames base l
 | [],_,_=>trivial
 | env::rest,k,hl=>by
  obtain⟨hk,⟨L,o,hf,hn,ho,hd⟩,hr⟩:=hl
  have hm:frs (env::rest)=L::frs rest:=by unfold frs; rw[List.filterMap_cons,hf]
  obtain⟨o',ho',hd'⟩:=k L (by rw[hm]; exact List.mem_cons_self) o ho
  exact⟨hk,⟨L,o',hf,hn,ho',fun vs=>hd' ▸ hd vs⟩,zEw (fun b hb=>k b (by rw[hm]; exact List.mem_cons_of_mem _ hb)) hr⟩
section
variable {M:Model}{A:Around}{E:Value->Shared->Prop}{s:Shared}{base:Heap}{env:Env}{outer:List Env}{L e T:Addr}{C:Value}{d:Option Addr}{Q:Unit->Shared->Prop}{f:Value}
theorem zHe(hfr:A.frames=some (env::outer))(hl:s.heap.FunFrames base (env::outer))(hf:env.frame=some L)(x:Exc s.heap e T C d f)
  (hQ:∀ h' T' f',(T'=T\/s.heap.get? T'=none)->Exc h' e T' C d f'->Ch (frs (env::outer)) [e,T] s.heap h'->Q () { s with heap:=h' }):wpAny M A (noteFrame (.ref e) env) Q E s:=by
 have x0:=x
 obtain⟨⟨oe,vs,he,rfl,rfl,hd,h1⟩,⟨oT,ts,hT,hdT,h3⟩,ne⟩:=x
 unfold noteFrame
 simp only[hf]
 refine wpAny_bind (wpAny_field he hd h1 ?_)
 rw[if_pos (show (Value.ref T != Value.none)=true by simp)]
 refine wpAny_bind (wpAny_field hT hdT h3 ?_)
 by_cases hv:(f == rawInt L)=true
 ·rw[if_pos hv]
  exact wpAny_pure (hQ s.heap T f (.inl rfl) x0 Ch.refl)
 rw[if_neg hv]
 refine wpAny_bind (wpAny_setField hT hdT (Array.getElem?_eq_some_iff.mp h3).1 ?_)
 have c1:Ch (frs (env::outer)) [T] s.heap (s.heap.update T (Obj.mapFields (·.setIfInBounds 3 Value.none))):=Ch.upd1
 have he':(s.heap.update T (Obj.mapFields (·.setIfInBounds 3 Value.none))).get? e=some oe:=(Heap.get?_update_other _ _ ne).trans he
 refine zB0 hfr (c1.funs hl fun b hb o ho=>?_) hf he' hd (Array.getElem?_eq_some_iff.mp h1).1 fun h' T' n x' c=>hQ h' T' _ (.inr ?_) x' ((c1.wide (fun _ z=>z) fun b hb=>?_).trans (c.wide (fun _ z=>z) fun b hb=>?_))
 ·rw[List.mem_singleton.mp hb,hT]at ho; cases ho; exact⟨ts,hdT⟩
 ·cases q:s.heap.get? T' with
  | none=>rfl
  | some o =>
   by_cases z:T'=T
   ·subst z
    have:=Heap.get?_update_self (Obj.mapFields (·.setIfInBounds 3 Value.none)) hT (Obj.isFreed_of_fields (Obj.data_mapFields hdT _))
    rw[n]at this; cases this
   ·rw[(Heap.get?_update_other _ _ (Ne.symm z)).trans q]at n; cases n
 ·rw[List.mem_singleton.mp hb]; exact List.mem_cons_of_mem _ List.mem_cons_self
 ·rw[List.mem_singleton.mp hb]; exact List.mem_cons_self
theorem zIU{α:Type}{what:String}{R:α->Shared->Prop}(x:Exc s.heap e T C d f)(hQ:∀ h' f',Exc h' e T C d f'->Ch (frs outer) [T] s.heap h'->E (.ref e) { s with heap:=h' }):wpAny M A (PySem.passOn what (.ref e) env:Sem α) R E s:=by
 obtain⟨⟨oe,vs,he,hc,hdi,hd,h1⟩,⟨oT,ts,hT,hdT,h3⟩,ne⟩:=x
 have h3':3 < ts.size:=(Array.getElem?_eq_some_iff.mp h3).1
 unfold PySem.passOn
 refine wpAny_bind (wpAny_field he hd h1 ?_)
 rw[if_neg (show ¬ ((Value.ref T == Value.none)=true) by simp)]
 refine wpAny_bind ?_
 unfold setFlight
 refine wpAny_bind (wpAny_field he hd h1 ?_)
 rw[if_pos (show (Value.ref T != Value.none)=true by simp)]
 refine wpAny_setField hT hdT h3' (wpAny_throw (hQ _ (env.frame.elim Value.none fun f=>rawInt f) ⟨⟨oe,vs,(Heap.get?_update_other _ _ ne).trans he,hc,hdi,hd,h1⟩,?_,ne⟩ Ch.upd1))
 have dm:=Obj.data_mapFields hdT (·.setIfInBounds 3 (env.frame.elim Value.none fun f=>rawInt f))
 exact⟨_,_,Heap.get?_update_self _ hT (Obj.isFreed_of_fields dm),dm,by simp[h3']⟩
end
section
variable {P:Program}{w:World}{K:PySem.W.Frag}{mg:Str->Option Value}{base:Heap}{N:List Str}{qual:Str}{scope:Scope}{f:Addr}{cd:Value}{A:Around}{outer:List Env}{s₀ s:Shared}{H₀ H:Hp}{E:XK}{pins:List (Addr×Obj)}{σ:St}
theorem zIX{e C T:Addr}{d:Option Addr}{h3:Heap}{S:List Addr}(I:Inv (cxOf (CXR P w) P w K mg base N qual scope f cd A outer s₀ H₀ E) pins σ H s)(hHe:H e=none)(e0:s₀.heap.get? e=none)(hS:∀ b∈S,H b=none/\s₀.heap.get? b=none)
  (c:Ch (frs ((cxOf (CXR P w) P w K mg base N qual scope f cd A outer s₀ H₀ E).env::outer)) S s.heap h3) (x3:Exc h3 e T (.ref C) d .none) (hT:H T=none) (T0:s₀.heap.get? T=none) (hE:E (.ref C) d H):CXR P w outer H₀ s₀ E (.ref e) { s with heap:=h3 }:=by
 have habove:s₀.heap.objs.size<=(cxOf (CXR P w) P w K mg base N qual scope f cd A outer s₀ H₀ E).env.locals:=I.ok.above
 have hfs:frs ((cxOf (CXR P w) P w K mg base N qual scope f cd A outer s₀ H₀ E).env::outer)=(cxOf (CXR P w) P w K mg base N qual scope f cd A outer s₀ H₀ E).env.locals::frs outer:=rfl
 have hstk:∀ b∈frs ((cxOf (CXR P w) P w K mg base N qual scope f cd A outer s₀ H₀ E).env::outer),H b=none:=I.stackFree
 have bL:∀ b o,s₀.heap.get? b=some o->b∉frs outer->b∉frs ((cxOf (CXR P w) P w K mg base N qual scope f cd A outer s₀ H₀ E).env::outer):=fun b o eo hb z=>by
  rw[hfs]at z
  rcases List.mem_cons.mp z with z | z
  ·exact absurd (z ▸ Heap.lt_size eo) (Nat.not_lt.mpr habove)
  ·exact hb z
 have nS:∀ b o,s₀.heap.get? b=some o->b∉S:=fun b o q z=>by rw[(hS b z).2]at q; cases q
 refine⟨e,C,T,d,H,rfl,I.os,I.bare,{ keep:=fun b o q n hb hx'=>c.keep b o (bL b o q hb) (nS b o q) (I.base.keep b o q n hb hx'),slot:=fun b o q n hb hx'=>?_,free:=I.base.free,there:=fun b o q hx'=>?_,tups:=I.base.tups,frzs:=I.base.frzs,tbls:=I.base.tbls },I.hok.ch c hstk fun b z=>(hS b z).1,hHe,hT,e0,T0,x3,hE⟩
 ·obtain⟨sl,q1⟩:=I.base.slot b o q n hb hx'
  obtain⟨sl2,q2⟩:=c.slot b _ (nS b o q) q1
  exact⟨sl2,q2⟩
 ·obtain⟨o1,q1⟩:=I.base.there b o q hx'
  obtain⟨sl,q2⟩:=c.slot b o1 (nS b o q) q1
  exact⟨_,q2⟩
theorem zHs{e C T Cc:Addr}{d:Option Addr}{m:Str->Option Value}{cenv:Env}{use:Option (Value->Sem Unit)}{QQ:Value->Shared->Prop}{acc:Value}(I:Inv (cxOf (CXR P w) P w K mg base N qual scope f cd A outer s₀ H₀ E) pins σ H s)
  (x:Exc s.heap e T (.ref C) d .none) (hHe:H e=none) (hHT:H T=none) (e0:s₀.heap.get? e=none) (T0:s₀.heap.get? T=none) (hE:E (.ref C) d H) (hns:s.heap.Ns Cc m) (hHC:H Cc=none) (C0:s₀.heap.get? Cc=none) (ne1:Cc≠e) (ne2:Cc≠T)
  (hCf:Cc∉frs ((cxOf (CXR P w) P w K mg base N qual scope f cd A outer s₀ H₀ E).env::outer)) (hf:cenv.frame=(cxOf (CXR P w) P w K mg base N qual scope f cd A outer s₀ H₀ E).env.frame) :
  notedBy (model P w) (cxOf (CXR P w) P w K mg base N qual scope f cd A outer s₀ H₀ E).A cenv (fun ev s'=>compPost (model P w) (cxOf (CXR P w) P w K mg base N qual scope f cd A outer s₀ H₀ E).A (cxOf (CXR P w) P w K mg base N qual scope f cd A outer s₀ H₀ E).xe use QQ acc Cc (.error ev) s') (.ref e) s:=by
 have hfun:s.heap.FunFrames base ((cxOf (CXR P w) P w K mg base N qual scope f cd A outer s₀ H₀ E).env::outer):=I.env0.funs
 have hnone:∀ b,s.heap.get? b=none->H b=none/\s₀.heap.get? b=none:=fun b q=>⟨zAg I.hok q,by
  cases q0:s₀.heap.get? b with
  | none=>rfl
  | some o=>obtain⟨o',q1⟩:=I.base.there b o q0 (fun z=>nomatch z); rw[q]at q1; cases q1⟩
 show wpAny _ _ (noteFrame (.ref e) cenv) _ _ s
 rw[zCY hf]
 refine zBM (base:=base) I.ok.frames hfun rfl x fun h2 T2 n2 x2 c2=>?_
 have body:∃ m,h2.Ns Cc m/\∀ h',Heap.SameBut Cc h2 h'->∀ cenv:Env,cenv.locals=Cc->wpAny (model P w) (cxOf (CXR P w) P w K mg base N qual scope f cd A outer s₀ H₀ E).A (PySem.passOn "comprehension.variables-let-go" (.ref e) cenv:Sem Value) (fun _ _=>False) (cxOf (CXR P w) P w K mg base N qual scope f cd A outer s₀ H₀ E).xe { s with heap:=h' }:=by
  obtain⟨oC,es,ep,hoC,hr⟩:=hns
  have neT2:T2≠Cc:=fun z=>by rw[z,hoC]at n2; cases n2
  refine⟨m,⟨oC,es,ep,c2.keep Cc oC hCf (fun z=>?_) hoC,hr⟩,fun h3 sb cenv' _=>?_⟩
  ·rcases List.mem_cons.mp z with z | z
   ·exact ne1 z
   ·exact ne2 (List.mem_singleton.mp z)
  have x3:Exc h3 e T2 (.ref C) d (rawInt (cxOf (CXR P w) P w K mg base N qual scope f cd A outer s₀ H₀ E).env.locals):=by
   obtain⟨⟨oe,vs,a1,a2⟩,⟨oT,ts,b1,b2⟩,ne⟩:=x2
   exact⟨⟨oe,vs,(sb.2 e (Ne.symm ne1)).trans a1,a2⟩,⟨oT,ts,(sb.2 T2 neT2).trans b1,b2⟩,ne⟩
  refine zIU (outer:=(cxOf (CXR P w) P w K mg base N qual scope f cd A outer s₀ H₀ E).env::outer) (s:={ s with heap:=h3 }) x3 fun h4 f4 x4 c4=>?_
  show wpAny (model P w) _ (leaving _ (.ref e)) (fun _ s''=>CXR P w outer H₀ s₀ E (.ref e) s'') (fun e' s''=>CXR P w outer H₀ s₀ E e' s'') _
  unfold leaving
  have cc:Ch (frs ((cxOf (CXR P w) P w K mg base N qual scope f cd A outer s₀ H₀ E).env::outer)) [e,T,T2,Cc] s.heap h4:=by
   refine ((c2.wide (fun _ z=>z) fun b z=>?_).trans (Ch.but sb ?_)).trans (c4.wide (fun _ z=>z) fun b z=>?_)
   ·rcases List.mem_cons.mp z with z | z
    ·rw[z]; simp
    ·rw[List.mem_singleton.mp z]; simp
   ·simp
   ·rw[List.mem_singleton.mp z]; simp
  have hS4:∀ b∈[e,T,T2,Cc],H b=none/\s₀.heap.get? b=none:=fun b z=>by
   simp only[List.mem_cons,List.not_mem_nil,or_false]at z
   rcases z with rfl | rfl | rfl | rfl
   ·exact⟨hHe,e0⟩
   ·exact⟨hHT,T0⟩
   ·exact hnone _ n2
   ·exact⟨hHC,C0⟩
  have hfun4:h4.FunFrames base ((cxOf (CXR P w) P w K mg base N qual scope f cd A outer s₀ H₀ E).env::outer):=by
   refine zEw (fun b hb o ho=>?_) hfun
   have nb:b∉[e,T,T2,Cc]:=fun z=>by
    obtain⟨_,o',ho',nf⟩:=hfun.mem hb
    simp only[List.mem_cons,List.not_mem_nil,or_false]at z
    rcases z with rfl | rfl | rfl | rfl
    ·obtain⟨⟨oe,vs,a1,_,_,a2,_⟩,_,_⟩:=x; rw[ho']at a1; cases a1; exact nf vs a2
    ·obtain⟨_,⟨oe,vs,a1,a2,_⟩,_⟩:=x; rw[ho']at a1; cases a1; exact nf vs a2
    ·rw[ho']at n2; cases n2
    ·exact hCf hb
   obtain⟨sl,q⟩:=cc.slot b o nb ho
   exact⟨_,q,rfl⟩
  refine wpAny_bind (zHe (base:=base) I.ok.frames hfun4 rfl x4 fun h5 T5 f5 t5 x5 c5=>?_)
  refine land (s:={ s with heap:=h5 }) x5 fun h6 x6 c6=>?_
  have hT5:H T5=none/\s₀.heap.get? T5=none:=by
   rcases t5 with rfl | t5
   ·exact hnone _ n2
   ·by_cases z:T5∈[e,T,T2,Cc]
    ·exact hS4 T5 z
    ·refine hnone T5 ?_
     cases q:s.heap.get? T5 with
     | none=>rfl
     | some o =>
      obtain⟨sl,q'⟩:=cc.slot T5 o z q
      have t5':h4.get? T5=none:=t5
      rw[t5']at q'; cases q'
  refine zIX (s:=s) (S:=[T5,e,T,T2,Cc]) I hHe e0 (fun b z=>?_) (((cc.wide (fun _ z=>z) fun b z=>List.mem_cons_of_mem _ z).trans (c5.wide (fun _ z=>z) fun b z=>?_)).trans (c6.wide (fun _ z=>nomatch z) fun b z=>?_)) x6 hT5.1 hT5.2 hE
  ·rcases List.mem_cons.mp z with rfl | z
   ·exact hT5
   ·exact hS4 b z
  ·rcases List.mem_cons.mp z with z | z
   ·rw[z]; simp
   ·rw[List.mem_singleton.mp z]; simp
  ·rw[List.mem_singleton.mp z]; simp
 cases use <;> exact body
end
def PEX(X:Cx)(E:XK)(e:Expr)(te:TE):Prop:=∀ (pins:List (Addr×Obj)) (s:Shared) (σ:St) (H:Hp) (Q:VK),Inv X pins σ H s->te σ H Q ->
 wpAny (model X.prog X.w) X.A (eval e X.env) (EP X pins σ Q) (fun e s'=>∃ H1 s1,Inv X pins σ H1 s1/\CXR X.prog X.w X.stack H1 s1 E e s') s
theorem zDL{prog:Program}{w:World}{A:Around}{R:Result->Shared->Prop}{s:Shared}{elt target iter:Expr}{ifs:List Expr}{scope:Scope}{pos:Pos}{it acc:Value}{env:Env}(I:Nat->Shared->Prop)
  (turn:∀ n s,I n s->wpAny (model prog w) A (pyNext it) (fun r s₁=>match r with
   | none=>R (.ok .next) s₁
   | some v=>wpAny (model prog w) A (letOwnedTupleGo target it v) (fun _ s₁'=>wpAny (model prog w) A (assign target env v) (fun _ s₂ =>
     wpAny (model prog w) A (forIn ifs true fun c r=>if r=true then do let ok ← isTrue c env (eval c env); pure (ForInStep.yield ok) else pure (ForInStep.yield r)) (fun ok s₃ =>
      if ok=true then wpAny (model prog w) A (eval elt env) (fun x s₄ =>
       wpAny (model prog w) A (call (.builtin "list.append") [acc,x]) (fun _ s₅=>∃ m,m < n/\I m s₅) (fun _ _=>False) s₄) (notedBy (model prog w) A env fun e s'=>R (.error e) s') s₃
      else ∃ m,m < n/\I m s₃) (fun _ _=>False) s₂) (fun _ _=>False) s₁') (fun _ _=>False) s₁) (fun _ _=>False) s)
  (n:Nat) (h:I n s) :
  codeAny (model prog w) A (.compLoop (.ListComp elt [⟨target,iter,ifs,0⟩] scope pos) 0 it acc env) R s:=by
 refine codeAny_loop rfl I (fun n s hI=>?_) n h
 show wpAny _ A ((compTurn (.ListComp elt [⟨target,iter,ifs,0⟩] scope pos) 0 it acc env).onRaise (fun x=>do noteFrame x env; theTreesLotGoes x)) _ _ s
 refine wpAny_noted ?_
 rw[compTurn_list]
 refine wpAny_bind (wpAny_standAt (wpAny_bind (wpAny_mono (turn n s hI) (fun r s₁ h₁=>?_) fun _ _ h'=>h'.elim)))
 cases r with
 | none=>exact wpAny_pure h₁
 | some v =>
  refine wpAny_bind (wpAny_mono h₁ (fun _ s₁' h₁'=>?_) fun _ _ h'=>h'.elim)
  refine wpAny_bind (wpAny_mono h₁' (fun _ s₂ h₂=>wpAny_bind (wpAny_mono h₂ (fun ok s₃ h₃=>?_) fun _ _ h'=>h'.elim)) fun _ _ h'=>h'.elim)
  cases ok with
  | false=>exact wpAny_pure ⟨rfl,h₃⟩
  | true =>
   exact wpAny_bind (wpAny_bind (wpAny_mono h₃ (fun x s₄ h₄=>wpAny_bind (wpAny_mono h₄ (fun _ s₅ h₅=>wpAny_pure (wpAny_pure ⟨rfl,h₅⟩)) fun _ _ h'=>h'.elim)) fun _ _ h'=>h'))
section
variable {X:Cx}{N':List Str}{ix:List (Option Nat)}{scope:Scope}{elt tg iter:Expr}{ifs:List Expr}{pos:Pos}{wi:TI}{g:TG}{tc:TT}{te:TE}{E:XK}
theorem zFV{use:Option (Value->Sem Unit)}{QQ:Value->Shared->Prop}(S:CompOk X N' ix scope)(hc:X.calm=true)(hi:PI X tg iter wi)
  (hg:∀ C cs s H ex,PG (cxC X N' scope C cs s H ex) tg g) (ht:∀ C cs s H ex,PTs (cxC X N' scope C cs s H ex) ifs tc) (he:∀ C cs s H ex,PEX (cxC X N' scope C cs s H ex) E elt te) (hex:X.ex=[])
  {pins:List (Addr×Obj)} {s:Shared} {σ:St} {H:Hp} {Q:VK} (I:Inv X pins σ H s) (hw:tComp wi ix g tc te σ H Q)
  (fin:∀ (D C:Addr) (o:Obj) (H':Hp) (s':Shared),Inv X (pins++[(C,o)]) σ H' s'->(∃ m,s'.heap.Ns C m)->(X.s₀.heap.objs.size<=C)->(∀ x c,X.env.cells.lookup x=some c->c≠C)->(∀ p∈X.pn++pins,p.1≠C)->Q (.ref D) H'->compPost (model X.prog X.w) X.A X.xe use QQ (.ref D) C (.ok .next) s')
  (err:∀ {H':Hp} {s':Shared} {e Ca T Cc:Addr} {d:Option Addr} {m:Str->Option Value} {cenv:Env} {acc:Value},Inv X pins σ H' s'->Exc s'.heap e T (.ref Ca) d .none->H' e=none->H' T=none->X.s₀.heap.get? e=none->X.s₀.heap.get? T=none->E (.ref Ca) d H'->s'.heap.Ns Cc m->H' Cc=none->X.s₀.heap.get? Cc=none->Cc≠e->Cc≠T->Cc∉frs X.stack->cenv.frame=X.env.frame ->
   notedBy (model X.prog X.w) X.A cenv (fun ev s''=>compPost (model X.prog X.w) X.A X.xe use QQ acc Cc (.error ev) s'') (.ref e) s')
  (hs:∀ x,foldedSetIterable iter X.env x=pure x:=by intro _; rfl) :
  wpAny (model X.prog X.w) X.A (comprehension (.ListComp elt [⟨tg,iter,ifs,0⟩] scope pos) scope X.env (firstIterPos [⟨tg,iter,ifs,0⟩] pos) (newList []) false (eval iter X.env) use) QQ X.xe s:=by
 refine wpAny_comprehension_free (cl:=cloOf X.env.cells scope.names []) rfl hs (zBI fun x hx hk=>I.ok.has x.1 ((S.name hx).1 hk)) S.kind (fun x hx hl=>(S.name hx).2.1 hl) ?_
 refine thn (hi pins s σ H _ I hw) fun v s1 h1=>thn h1 fun itv s2 h2=>?_
 obtain⟨it,fp,tn,J,H2,e,I2,T,st2,f2,W,⟨m0,w0⟩,turn⟩:=h2
 subst e
 refine wpAny_newObj_type ?_
 refine zBo ?_
 generalize hH3:s2.heap.push { cls:=.type "list",dict:=none,data:=.seq ([]:List Value).toArray }=h3
 have hD3:h3.get? s2.heap.objs.size=some { cls:=.type "list",dict:=none,data:=.seq ([]:List Value).toArray }:=by rw[← hH3]; exact Heap.get?_push_size _ rfl
 have hk3:∀ b u,s2.heap.get? b=some u->h3.get? b=some u:=fun b u e=>by rw[← hH3]; exact Heap.get?_push_of_some _ e
 have hz3:h3.objs.size=s2.heap.objs.size+1:=by rw[← hH3,Heap.size_push]
 have ho2:∀ b∈fp,∃ o,s2.heap.get? b=some o:=fun b hb=>by obtain⟨o,e,_⟩:=T.obj _ _ st2 b hb; exact⟨o,e⟩
 show codeAny (model X.prog X.w) X.A (.compStart (.ListComp elt [⟨tg,iter,ifs,0⟩] scope pos) 0 (.ref it) (.ref s2.heap.objs.size) (compEnvC scope (cellsFrom (h3.objs.size+1) scope.names (cloOf X.env.cells scope.names [])) h3.objs.size X.env)) (compPost (model X.prog X.w) X.A X.xe use QQ (.ref s2.heap.objs.size) h3.objs.size) { s2 with heap:=pushCells (h3.push { cls:=.type "dict",data:=.dict #[] }) scope.names }
 generalize hD:s2.heap.objs.size=D at hD3 hz3 ⊢
 generalize hC:h3.objs.size=C at hz3 ⊢
 generalize h4e:pushCells (h3.push { cls:=.type "dict",data:=.dict #[] }) scope.names=h4
 have hk4:∀ b u,h3.get? b=some u->h4.get? b=some u:=fun b u e=>by rw[← h4e]; exact pushCells_keeps _ _ b u (Heap.get?_push_of_some _ e)
 have I4:Inv (cxC X N' scope C (cellsFrom (C+1) scope.names (cloOf X.env.cells scope.names [])) s2 H2 fp) [] (frm ix σ) H2 { s2 with heap:=h4,toks:=s2.toks } :=
  zEI (D:=D) (o:={ cls:=.none,data:=.dict #[] }) S I2 f2 ho2 hc hk3 hC.symm (by rw[hC,hz3,hD]; exact Nat.le_succ _) h4e.symm
 have hcellD:∀ x c,(cellsFrom (C+1) scope.names (cloOf X.env.cells scope.names [])).lookup x=some c->c≠D:=fun x c h z=>by
  rcases zAc scope.names _ _ h with ⟨a,_⟩ | a
  ·rw[z,hz3]at a; omega
  ·rcases zAV scope.names [] a with ⟨hm,e⟩ | a
   ·obtain⟨c',hc'⟩:=I2.ok.has x ((S.name hm).1 rfl)
    rw[hc']at e
    obtain⟨v,q⟩:=I2.cell x c' hc'
    have e':c=c':=e
    rw[← e',z,← hD]at q
    exact absurd q.lt (Nat.lt_irrefl _)
   ·cases a
 have hDC:D≠C:=by rw[hz3]; exact Nat.ne_of_lt (Nat.lt_succ_self _)
 have hDfp:D∉fp:=fun hb=>by obtain⟨o,e⟩:=ho2 D hb; exact absurd (hD ▸ Heap.lt_size e) (Nat.lt_irrefl _)
 generalize hX':cxC X N' scope C (cellsFrom (C+1) scope.names (cloOf X.env.cells scope.names [])) s2 H2 fp=X' at I4
 have hfpX:∀ {H':Hp} {oD:Obj},(∀ b∈fp,H' b=none)->∀ b∈fp,FpOk X' [(D,oD)] H' b:=fun {H' oD} hn b hb=>by
  rw[← hX']
  refine⟨hn b hb,fun z=>?_,fun z=>?_,.inl hb,fun x c h z=>?_,fun p hp=>?_⟩
  rotate_right
  ·have hp':p∈[(D,oD)]:=hp
   have e:p=(D,oD):=by simpa using hp'
   subst e
   exact fun z=>hDfp (by rw[show D=b from z]; exact hb)
  ·obtain⟨o,e⟩:=ho2 b hb
   have z':b=C:=z
   have q:=Heap.lt_size e
   rw[z',hz3,hD]at q
   exact absurd (Nat.lt_trans (Nat.lt_succ_self D) q) (Nat.lt_irrefl _)
  ·have z':b∈frs X.stack:=z
   rcases List.mem_cons.mp (I2.stkSub b z') with e | e
   ·exact (f2 b hb).2.1 e
   ·exact (f2 b hb).2.2.1 e
  ·rw[← hX']at I4
   exact (I4.ok.exf b hb).2 x c h z
 have HDnone:H2 D=none:=I2.hok.fresh (by rw[hD]; exact Nat.le_refl _)
 have key:∀ (s':Shared),s'={ s2 with heap:=h4,toks:=s2.toks } ->
   codeAny (model X.prog X.w) X.A (.compLoop (.ListComp elt [⟨tg,iter,ifs,0⟩] scope pos) 0 (.ref it) (.ref D) X'.env) (compPost (model X.prog X.w) X.A X.xe use QQ (.ref D) C) s':=by
  rintro s' rfl
  refine zDL (fun n s'=>∃ i ys σ' H' its,Inv X' [] σ' H' s'/\tn i s'.heap/\(∀ b∈fp,H' b=none)/\H' D=none/\s'.heap.PlainList D its/\Vals ys its.toList/\W i n ys σ' H') ?_ m0
   ⟨0,[],frm ix σ,H2,#[],I4,T.keep _ _ _ st2 fun b hb o e=>hk4 b o (hk3 b o e),fun b hb=>(f2 b hb).1,HDnone,⟨_,hk4 _ _ hD3⟩,.nil,w0⟩
  rintro n s3 ⟨i,ys,σ3,H3,its,I3,st3,fr3,hD3n,hpl,hv,w3⟩
  have hc':X'.calm=true:=by rw[← hX']; exact hc
  have xe':∀ e s,X'.xe e s->False:=by rw[← hX']; exact fun _ _ z=>z
  have pr:X'.prog=X.prog:=by rw[← hX']; rfl
  have pw:X'.w=X.w:=by rw[← hX']; rfl
  have pK:X'.K=X.K:=by rw[← hX']; rfl
  have pA:X'.A=X.A:=by rw[← hX']; rfl
  have p0:X'.s₀=s2:=by rw[← hX']; rfl
  have pH:X'.H₀=H2:=by rw[← hX']; rfl
  have px:X'.ex=fp:=by rw[← hX']; rfl
  have pf:X'.fs=frs X.stack:=by rw[← hX']; rfl
  have pL:X'.env.locals=C:=by rw[← hX']; rfl
  have pn0:X'.pn=[]:=by rw[← hX']; rfl
  have pcs:X'.env.cells=cellsFrom (C+1) scope.names (cloOf X.env.cells scope.names []):=by rw[← hX']; rfl
  obtain⟨nD,hoD⟩:=id hpl
  have Dfs:D∉X'.fs:=fun z=>by
   rw[pf]at z
   rcases List.mem_cons.mp (I2.stkSub D z) with e | e
   ·have q:=I2.lt; rw[← e,hD]at q; exact Nat.lt_irrefl _ q
   ·exact I2.nofs (by rw[hD]; exact Nat.le_refl _) e
  have I3':Inv X' [(D,_)] σ3 H3 s3:=I3.pins_of fun p hp=>by
   have e:p=(D,_):=List.mem_singleton.mp hp
   subst e
   exact⟨hoD,hD3n,by rw[pL]; exact hDC,Dfs,fun v z=>by cases z⟩
  have hg':PG X' tg g:=hX' ▸ hg _ _ _ _ _
  have ht':PTs X' ifs tc:=hX' ▸ ht _ _ _ _ _
  have he':PEX X' E elt te:=hX' ▸ he _ _ _ _ _
  have hsizes:its.toList.length=ys.length:=hv.length.symm
  rcases turn i n ys σ3 H3 w3 with ⟨stop,hlen,qn⟩ | ⟨go,hlt,N,hN,step⟩
  ·-- the end
   have T':=T.done X' pr pw pK hc' i _ s3 σ3 H3 (fun _ _=>False) I3' (hfpX fr3) st3 stop
   rw[pA]at T'
   refine thn T' fun r s4 ⟨hr,I5⟩=>?_
   subst hr
   obtain⟨gD,nDn,_,_,_⟩:=I5.pin (D,_) (List.mem_append_right _ (List.mem_singleton.mpr rfl))
   have gD':s4.heap.get? D=some { cls:=.type "list",data:=.seq its nD }:=gD
   obtain⟨m,hns,_⟩:=I5.loc
   rw[pL]at hns
   obtain⟨oC,es,ep,hoC,hdC,_⟩:=id hns
   have ub:Un (frs X.stack) fp H2 H3 s2.heap s4.heap:=by
    have q:=I5.base
    rw[px,pH,p0]at q
    rw[← pf]; exact q
   have bLt:∀ b u,s2.heap.get? b=some u->b≠D:=fun b u e z=>by have q:=Heap.lt_size e; rw[z,hD]at q; exact Nat.lt_irrefl _ q
   have u':Un (frs X.stack) fp H2 (upd H3 D (.lst ys)) s2.heap s4.heap :=
    ⟨ub.keep,ub.slot,fun b o e n hx=>by rw[zAB (bLt b o e)]; exact ub.free b o e n hx,ub.there,fun b xs e=>by rw[zAB (zAC (ub.tups b xs e) hD3n)]; exact ub.tups b xs e,
     fun b o u e=>by rw[zAB (zAC (ub.frzs b o u e) hD3n)]; exact ub.frzs b o u e,fun b ps e=>by obtain⟨more,q⟩:=ub.tbls b ps e; exact⟨more,by rw[zAB (zAC q hD3n)]; exact q⟩⟩
   have hok':HOk X.prog X.w (upd H3 D (.lst ys)) s4.heap:=by
    have q:=I5.hok
    rw[pr,pw]at q
    exact q.adopt hD3n ⟨hlen,its.toList,nD,hv,by simpa using gD'⟩
   have os':s4.os=s2.os:=by have q:=I5.os; rw[p0]at q; exact q
   have Iend:Inv X pins σ (upd H3 D (.lst ys)) s4:=I2.call' (ch:=fp) os' u' hok' I5.bare fun b hb=>⟨(f2 b hb).2.2.2.1,(f2 b hb).2.1,(f2 b hb).2.2.2.2.1,(f2 b hb).2.2.2.2.2⟩
   have hsC:s2.heap.objs.size<=C:=by rw[hz3,hD]; exact Nat.le_succ _
   have freeC:upd H3 D (.lst ys) C=none:=by rw[zAB (Ne.symm hDC)]; have q:=I5.free; rw[pL]at q; exact q
   have Iend':Inv X (pins++[(C,oC)]) σ (upd H3 D (.lst ys)) s4:=Iend.pins_of fun p hp=>by
    rcases List.mem_append.mp hp with hp | hp
    ·exact Iend.pin p (List.mem_append_right _ hp)
    ·have e:p=(C,oC):=List.mem_singleton.mp hp
     subst e
     exact⟨hoC,freeC,Nat.ne_of_gt (Nat.lt_of_lt_of_le I2.lt hsC),I2.nofs hsC,fun v z=>by rw[show oC.data=Data.cell v from z]at hdC; cases hdC⟩
   exact fin D C oC _ s4 Iend' ⟨m,hns⟩ (Nat.le_trans I2.sz hsC) (fun x c h z=>by obtain⟨v,q⟩:=I2.cell x c h; exact absurd (Nat.lt_of_lt_of_le q.lt hsC) (by rw[z]; exact Nat.lt_irrefl _))
    (fun p hp z=>by have q:=Heap.lt_size (I2.pin p hp).1; exact absurd (Nat.lt_of_lt_of_le q hsC) (by rw[z]; exact Nat.lt_irrefl _)) (qn D hD3n)
  ·have T':=T.item X' pr pw pK hc' i _ s3 σ3 H3 (fun _ _=>False) I3' (hfpX fr3) st3 go
   rw[pA]at T'
   refine thn T' fun r s4 ⟨u,hr,h4'⟩=>?_
   subst hr
   refine thn h4' fun _ s5 ⟨x,H5,I5,r5,y5,st5,fr5⟩=>?_
   have I5':=I5.pinned (hfpX fr5) (T.obj _ _ st5)
   have A1:=hg' _ s5 σ3 H5 x u _ I5' r5 (step x H5 y5)
   rw[pr,pw,pA]at A1
   refine wpAny_mono A1 (fun _ s6 ⟨σ6,H6,I6,q6⟩=>?_) xe'
   have A2:=ht' _ s6 σ6 H6 _ I6 q6
   rw[pr,pw,pA]at A2
   refine wpAny_mono A2 (fun b s7 ⟨H7,I7,q7⟩=>?_) xe'
   have pinD:∀ {σ':St} {H':Hp} {s':Shared},Inv X' ([(D,{ cls:=.type "list",data:=.seq its nD })]++pinsAt fp s5.heap) σ' H' s'->s'.heap.get? D=some { cls:=.type "list",data:=.seq its nD }/\H' D=none/\(∀ b∈fp,∀ o,s5.heap.get? b=some o->s'.heap.get? b=some o/\H' b=none):=fun {σ' H' s'} J=>by
    obtain⟨a1,a2,_⟩:=J.pin (D,_) (List.mem_append_right _ (List.mem_append_left _ (List.mem_singleton.mpr rfl)))
    refine⟨a1,a2,fun b hb o e=>?_⟩
    obtain⟨b1,b2,_⟩:=J.pin (b,o) (List.mem_append_right _ (List.mem_append_right _ (zAp hb e)))
    exact⟨b1,b2⟩
   have frOf:∀ {σ':St} {H':Hp} {s':Shared},Inv X' ([(D,{ cls:=.type "list",data:=.seq its nD })]++pinsAt fp s5.heap) σ' H' s'->∀ b∈fp,H' b=none:=fun {σ' H' s'} J b hb=>by
    obtain⟨o,e,_⟩:=T.obj _ _ st5 b hb
    exact ((pinD J).2.2 b hb o e).2
   have bare:∀ {σ':St} {H':Hp} {s':Shared},Inv X' ([(D,{ cls:=.type "list",data:=.seq its nD })]++pinsAt fp s5.heap) σ' H' s'->Inv X' [] σ' H' s':=fun {σ' H' s'} J=>J.pins_of fun p hp=>nomatch hp
   cases b with
   | false =>
    obtain⟨m',hm,w'⟩:=hN ys σ6 H7 q7
    exact⟨m',hm,i+1,ys,σ6,H7,its,bare I7,T.keep _ _ _ st5 fun b hb o e=>((pinD I7).2.2 b hb o e).1,frOf I7,(pinD I7).2.1,⟨nD,(pinD I7).1⟩,hv,w'⟩
   | true =>
    have A3:=he' _ s7 σ6 H7 _ I7 q7
    rw[pA]at A3
    rw[show model X'.prog X'.w=model X.prog X.w by rw[pr,pw]]at A3
    refine wpAny_mono A3 (fun v s8 ⟨x8,H8,I8,r8,q8⟩=>?_) fun ev s8 ⟨H8,s8',I8,c8⟩=>?_
    rotate_left
    ·obtain⟨a8,Ca,T8,d8,H9,rfl,os8,hg8,un8,hok8,hHa,hHT,ha8,hT8,x8,hE8⟩:=c8
     have I9:Inv X' _ σ6 H9 s8:=I8.settle (S:=[]) (h'':=s8.heap) os8 hg8 un8 hok8 ha8 hT8 hHa hHT (fun _ z=>nomatch z) Ch.refl
     have back:∀ b,s8'.heap.get? b=none->X.s₀.heap.get? b=none:=fun b hb=>by
      cases q0:X.s₀.heap.get? b with
      | none=>rfl
      | some o0 =>
       obtain⟨o1,q1⟩:=I2.base.there b o0 q0 (fun z=>by rw[hex]at z; exact nomatch z)
       by_cases hbf:b∈fp
       ·obtain⟨o,e,_⟩:=T.obj _ _ st5 b hbf
        rw[((pinD I8).2.2 b hbf o e).1]at hb; cases hb
       ·obtain⟨o2,q2⟩:=I8.base.there b o1 (by rw[p0]; exact q1) (by rw[px]; exact hbf)
        rw[hb]at q2; cases q2
     have ub:Un (frs X.stack) fp H2 H9 s2.heap s8.heap:=by
      have q:=I9.base
      rw[px,pH,p0]at q
      rw[← pf]; exact q
     have hok9:HOk X.prog X.w H9 s8.heap:=by
      have q:=I9.hok
      rw[pr,pw]at q
      exact q
     have os9:s8.os=s2.os:=by have q:=I9.os; rw[p0]at q; exact q
     have Iend:Inv X pins σ H9 s8:=I2.call' (ch:=fp) os9 ub hok9 I9.bare fun b hb=>⟨(f2 b hb).2.2.2.1,(f2 b hb).2.1,(f2 b hb).2.2.2.2.1,(f2 b hb).2.2.2.2.2⟩
     have hsC:s2.heap.objs.size<=C:=by rw[hz3,hD]; exact Nat.le_succ _
     obtain⟨m8,hns8,_⟩:=I8.loc
     rw[pL]at hns8
     obtain⟨oC,_,_,hoC,_⟩:=hns8
     obtain⟨m9,hns9,_⟩:=I9.loc
     rw[pL]at hns9
     have freeC:H9 C=none:=by have q:=I9.free; rw[pL]at q; exact q
     refine err Iend x8 hHa hHT (back _ ha8) (back _ hT8) hE8 hns9 freeC (Heap.get?_none_of_le (Nat.le_trans I2.sz hsC)) (fun z=>by rw[← z,hoC]at ha8; cases ha8) (fun z=>by rw[← z,hoC]at hT8; cases hT8) (fun z=>?_) (by rw[← hX']; rfl)
     rcases List.mem_cons.mp (I2.stkSub C z) with e | e
     ·have q:=I2.lt; rw[← e]at q; exact Nat.not_lt.mpr hsC q
     ·exact I2.nofs hsC e
    refine wpAny_list_append_plain (items:=its) ⟨nD,(pinD I8).1⟩ (fun h9 hl9 hs9=>?_) (by
     have:its.size=its.toList.length:=by simp
     rw[this,hsizes]; exact Nat.le_of_lt hlt)
    obtain⟨m',hm,w'⟩:=hN (ys++[x8]) σ6 H8 q8
    have I9:Inv X' [] σ6 H8 { s8 with heap:=h9,toks:=s8.toks }:=(bare I8).turned (t':=s8.toks) (it:=D) (fun b o hb e=>(hs9.2 b hb).trans e) (pinD I8).2.1 (by rw[pL]; exact hDC) (.inr (by rw[p0,hD]; exact Nat.le_refl _)) (by rw[pcs]; exact hcellD) (fun p hp=>by rw[pn0]at hp; exact nomatch hp)
    refine⟨m',hm,i+1,ys++[x8],σ6,H8,its.push v,I9,T.keep _ _ _ st5 fun b hb o e=>(hs9.2 b fun z=>hDfp (z ▸ hb)).trans ((pinD I8).2.2 b hb o e).1,frOf I8,(pinD I8).2.1,hl9,?_,w'⟩
    rw[Array.toList_push]
    exact hv.append (.cons r8 .nil)
 rw[← hX']at key
 exact codeAny_compStart_list (key _ rfl) (T.self _ 0 _ _ _ (T.keep _ _ _ st2 fun b hb o e=>hk4 b o (hk3 b o e)) (key _ rfl))
theorem zG2{i:Nat}{x:Str}{pos' spos:Pos}(hN:X.N.Nodup)(hi':X.N[i]?=some x)(hx:Loc X.env.scope x)(S:CompOk X N' ix scope)(hc:X.calm=true)(hi:PI X tg iter wi)
  (hg:∀ C cs s H ex,PG (cxC X N' scope C cs s H ex) tg g) (ht:∀ C cs s H ex,PTs (cxC X N' scope C cs s H ex) ifs tc) (he:∀ C cs s H ex,PEX (cxC X N' scope C cs s H ex) E elt te) (hex:X.ex=[])
  (err:∀ {use:Option (Value->Sem Unit)} {QQ:Value->Shared->Prop} {pins:List (Addr×Obj)} {σ:St} {H':Hp} {s':Shared} {e Ca T Cc:Addr} {d:Option Addr} {m:Str->Option Value} {cenv:Env} {acc:Value},Inv X pins σ H' s'->Exc s'.heap e T (.ref Ca) d .none->H' e=none->H' T=none->X.s₀.heap.get? e=none->X.s₀.heap.get? T=none->E (.ref Ca) d H'->s'.heap.Ns Cc m->H' Cc=none->X.s₀.heap.get? Cc=none->Cc≠e->Cc≠T->Cc∉frs X.stack->cenv.frame=X.env.frame ->
   notedBy (model X.prog X.w) X.A cenv (fun ev s''=>compPost (model X.prog X.w) X.A X.xe use QQ acc Cc (.error ev) s'') (.ref e) s')
  (hsw:swapsWith (.ListComp elt [⟨tg,iter,ifs,0⟩] scope pos) (some (.Name x pos')) spos.line X.env=pure true:=by rfl)
  (hf:X.fn x=true\/X.env.scope.names.lookup x=some .local:=by first | exact .inl rfl | exact .inr rfl | assumption)
  (hs:∀ x,foldedSetIterable iter X.env x=pure x:=by intro _; rfl):PS X (.Assign [.Name x pos'] (.ListComp elt [⟨tg,iter,ifs,0⟩] scope pos) spos) (tAsg (tComp wi ix g tc te) (gName i)):=by
 intro pins s σ H D I h
 rw[exec_Assign_Name_used _ _ _ _ hsw]
 refine wpAny_bind (wpAny_standAt (wpAny_bind ?_))
 show wpAny _ X.A (do let _ ← comprehension (.ListComp elt [⟨tg,iter,ifs,0⟩] scope pos) scope X.env _ (newList []) false (eval iter X.env) (some (assign (.Name x pos') X.env))) _ _ s
 refine wpAny_bind (thn (zFV (E:=E) (use:=some (assign (.Name x pos') X.env)) (QQ:=fun _ s'=>SP X pins D .next s') S hc hi hg ht he hex I h (fun D' C o H' s' I' hns h1 h2 h3 q=>?_) err hs) fun _ s' q=>wpAny_pure (wpAny_pure q))
 obtain⟨m,hns⟩:=hns
 have P:=zCg (pos:=pos') hN hi' hx hf
 refine thn (P _ s' σ H' (.ref D') (.ref D') _ I' rfl q) fun _ s2 ⟨σ2,H2,I2,q2⟩=>?_
 obtain⟨a1,_⟩:=I'.pin (C,o) (List.mem_append_right _ (List.mem_append_right _ (List.mem_singleton.mpr rfl)))
 obtain⟨b1,b2,b3,b4,_⟩:=I2.pin (C,o) (List.mem_append_right _ (List.mem_append_right _ (List.mem_singleton.mpr rfl)))
 refine⟨m,?_,fun h' hs'=>⟨σ2,H2,I2.unpinned.turned (t':=s2.toks) (it:=C) (fun b u hb e=>(hs'.2 b hb).trans e) b2 b3 (.inr h1) h2 h3,q2⟩⟩
 obtain⟨oC,es,ep,hoC,r⟩:=hns
 have e:oC=o:=by
  have q:=hoC.symm.trans a1
  exact Option.some.inj q
 subst e
 exact⟨oC,es,ep,b1,r⟩
end
section
variable {X:Cx}{E:XK}{e:Expr}{es:List Expr}{te:TE}{t:TA}{pos:Pos}
abbrev xeP(X:Cx)(E:XK)(pins:List (Addr×Obj))(σ:St):Value->Shared->Prop:=fun e s'=>∃ H1 s1,Inv X pins σ H1 s1/\CXR X.prog X.w X.stack H1 s1 E e s'
def PAX(X:Cx)(E:XK)(es:List Expr)(t:TA):Prop :=
 ∀ (pos:Pos) (pins:List (Addr×Obj)) (s:Shared) (σ:St) (H:Hp) (Q:List V->Hp->Prop),Inv X pins σ H s->t σ H Q->wpAny (model X.prog X.w) X.A (spliced (backTo pos (starEach es X.env))) (AP X pins σ Q) (xeP X E pins σ) s
theorem zJj(h:∀ E',PE (X.on E') e te):PEX X E e te:=fun pins s σ H Q I hq=>by
 refine wpAny_mono (h (xeP X E pins σ) pins s σ H Q I.on hq) (fun v s1 z=>?_) fun _ _ z=>z
 obtain⟨v',H1,I1,r1,q1⟩:=z
 exact⟨v',H1,I1.off,r1,q1⟩
theorem zIe:PAX X E [] tNil:=fun pos pins s σ H Q I hq=>by
 refine wpAny_mono (zBL (X:=X.on (xeP X E pins σ)) pos pins s σ H Q I.on hq) (fun v s1 z=>?_) fun _ _ z=>z
 obtain⟨v',H1,I1,r1,q1⟩:=z
 exact⟨v',H1,I1.off,r1,q1⟩
theorem zG0(ha:PEX X E e te)(hr:PAX X E es t)(hs:starEach (e::es) X.env=(false,eval e X.env)::starEach es X.env:=by rfl):PAX X E (e::es) (tCons te t):=by
 intro pos pins s σ H Q I h
 rw[hs]
 show wpAny _ _ (spliced ((false,eval e X.env)::backTo pos (starEach es X.env))) _ _ s
 refine Calls.spliced_cons (thn (ha pins s σ H _ I h) fun u s1 ⟨x,H1,I1,r1,q1⟩=>?_)
 exact thn (hr pos pins s1 σ H1 _ I1 q1) fun us s2 ⟨xs,H2,I2,r2,q2⟩=>⟨x::xs,H2,I2,.cons r1 r2,q2⟩
theorem zIA{x1}(h:PAX X E es t):PEX X E (.Tuple es x1 pos) (tTup t):=by
 intro pins s σ H Q I hq
 refine wpAny_Tuple_spliced (thn (h pos pins s σ H _ I hq) fun us s1 ⟨xs,H1,I1,r,z,q⟩=>⟨by rw[← r.length]; exact z,?_⟩)
 have hf:H1 s1.heap.objs.size=none:=I1.hok.fresh (Nat.le_refl _)
 refine⟨.ref s1.heap.objs.size,upd H1 s1.heap.objs.size (.tup xs),I1.laid (t':=s1.toks) (fun b u e=>Heap.get?_push_of_some _ e) (Nat.le_refl _) ?_,rfl,q _ hf⟩
 exact⟨z,us,r,⟨_,Heap.get?_push_size _ rfl,rfl,⟨_,rfl⟩,rfl⟩⟩
end
section
variable {X:Cx}{e:Expr}{te:XK->TE}{ts:TS}{j i:Nat}{n y z:Str}{Dc:Addr}{np hpos epos tpos zpos:Pos}{b₀:Stmt}{suite:List Stmt}
def tTryF(K:PySem.W.Frag)(Dc:Addr)(j i:Nat)(te:XK->TE)(ts:TS):TS:=fun D σ H=>te (wishX K Dc j ts D σ) σ H (fun v H2=>D.nx (σ.set i (some v)) H2)
theorem zIj(ha:∀ E,PEX X E e (te E))(hi:X.N[i]?=some z)(hzl:Loc X.env.scope z)(hzf:X.fn z=true\/X.env.scope.names.lookup z=some .local)
  (hst:X.stack=X.env::X.outer) (hex:X.ex=[]) (hfr:X.env.frame=some X.env.locals) (hN:X.N.Nodup) (hj:X.N[j]?=some n) (hk:X.env.scope.names.lookup n=some .local) (hgy:Gl X y) (hmy:X.mg y=some (.ref Dc)) (hyd:(y == ("__debug__":Str))=false)
  (hs:∀ a E',PSs (X.inn a E') (b₀::suite) ts) (hsw:swapsWith e (some (.Name z zpos)) epos.line X.env=pure false) :
  PS X (.Try [.Assign [.Name z zpos] e epos] [.ExceptHandler (some (.Name y np)) (some n) (b₀::suite) hpos] [] [] tpos) (tTryF X.K Dc j i te ts):=by
 intro pins s σ H D I h
 refine wpAny_Try_except ?_
 refine wpAny_execs_cons (wpAny_Assign_Name (wpAny_mono (ha _ pins s σ H _ I h) (fun v s1 z=>?_) fun e' s1 z=>?_) hsw)
 ·obtain⟨v',H1,I1,r1,q1⟩:=z
  exact zAO I1 hN hi hzl r1 (fun s2 I2=>wpAny_execs_nil (wpAny_execs_nil ⟨_,H1,I2,q1⟩)) hzf
 ·obtain⟨H1,s0,I1,c⟩:=z
  exact zGV hst hex hfr hN hj hk hgy hmy hyd hs I1 c
end
end L2
namespace D
open PySem L2
def compDX(tg:En->T->Option En)(dc:DT)(de:DEX):List T->En->Option (Except Xv (List T×En))
 | [],Γ=>some (.ok ([],Γ))
 | t::r,Γ=>(tg Γ t).bind fun Γ1=>(dc Γ1).bind fun p=>if p.1=true then (de p.2).bind fun a=>match a with
   | .error z=>some (.error z)
   | .ok q=>q.1.tree.bind fun t'=>(compDX tg dc de r q.2).map fun z=>match z with
    | .error z=>.error z
    | .ok z=>.ok (t'::z.1,z.2)
  else compDX tg dc de r p.2
def dCompX(ix:List (Option Nat))(di:DI)(tg:En->T->Option En)(dc:DT)(de:DEX):DEX:=fun Γ=>(di Γ).bind fun p=>(compDX tg dc de p.1.1 (pick none ix p.2)).map fun z=>match z with
 | .error z=>.error (z.1,p.2)
 | .ok z=>.ok (.l z.1,p.2)
def prepX(pre:List T):Except Xv (List T×En)->Except Xv (List T×En)
 | .error z=>.error z
 | .ok z=>.ok (pre++z.1,z.2)
section
variable {K:Fg}{E:XK}
theorem zEb{C1:Fr}{w1:W}{J:It}{H1:Hp}{its:List T}{ix:List (Option Nat)}{g:TG}{tc:TT}{te:TE}{tg:En->T->Option En}{dc:DT}{de:DEX}{jp:Option Nat}{σ:St}{Γ0:En}{rr:Except Xv (List T×En)}{Q:VK}
  (hp:C1.pins.map (·.1)=jp.toList) (hg:SimG K jp g tg) (hc:SimT K tc dc) (he:SimEX K E te de) (hl:its.length<=sizeLine) (hC:C1.H0=H1)
  (hJ:∀ H2,Evo C1.fx H1 H2->(∀ (i:Nat) t,its[i]?=some t->J.go i H2/\∀ x H3,J.yld i H2 x H3->(∀ b o,H2 b=some o->H3 b=some o)/\Im K H3 x t)/\J.stop its.length H2)
  (hfx:∀ p,p∈w1.L->p∈C1.fx)
  (R:Rep K C1 w1 Γ0 (frm ix σ) H1) (e:compDX tg dc de its Γ0=some rr)
  (kx:∀ z,rr=.error z->∀ σ' H',Rep K C1 w1 z.2 σ' H'->XiE K E z.1.1 z.1.2 H')
  (k:∀ ts Γe,rr=.ok (ts,Γe)->∀ σ' H' ys,Rep K C1 w1 Γe σ' H'->Ims K H' ys ts->ys.length<=sizeLine->∀ D,H' D=none->Q (.ref D) (upd H' D (.lst ys))):CompW J ix g tc te σ H1 Q:=by
 refine⟨fun i m ys σ' H'=>m=its.length - i/\i<=its.length/\ys.length<=i/\∃ Γ pre post,Rep K C1 w1 Γ σ' H'/\Ims K H' ys pre/\compDX tg dc de (its.drop i) Γ=some post/\rr=prepX pre post,⟨_,rfl,Nat.zero_le _,Nat.zero_le _,Γ0,[],rr,R,.nil,e,by cases rr <;> rfl⟩,?_⟩
 rintro i m ys σ' H' ⟨rfl,hi,hy,Γ,pre,post,R',hpre,e',rfl⟩
 have ev:Evo C1.fx H1 H':=fun b o h n=>R'.frame b o (by rw[hC]; exact h) n
 obtain⟨go,stop⟩:=hJ H' ev
 by_cases hlt:i < its.length
 ·obtain⟨t,ht⟩:∃ t,its[i]?=some t:=⟨its[i],by simp[hlt]⟩
  have hd:its.drop i=t::its.drop (i+1):=by
   obtain⟨h1,h2⟩:=List.getElem?_eq_some_iff.mp ht
   rw[← h2]; exact List.drop_eq_getElem_cons h1
  rw[hd]at e'
  unfold compDX at e'
  obtain⟨Γ1,e1,e'⟩:=bind_some e'
  obtain⟨⟨b,Γ2⟩,e2,e'⟩:=bind_some e'
  obtain⟨g1,g2⟩:=go i t ht
  refine .inr ⟨g1,by omega,fun ys' σ2 H2=>ys'.length<=i+1/\∃ Γ pre' post',Rep K C1 w1 Γ σ2 H2/\Ims K H2 ys' pre'/\compDX tg dc de (its.drop (i+1)) Γ=some post'/\prepX pre post=prepX pre' post',fun ys' σ2 H2 ⟨a,b⟩=>⟨_,by omega,rfl,hlt,a,b⟩,fun x H2 hx=>?_⟩
  obtain⟨k1,k2⟩:=g2 x H2 hx
  have ev1:Evo w1.L H' H2:=fun b o h _=>k1 b o h
  have R2:=R'.evo0 k1
  refine hg C1 w1 Γ σ' H2 x t Γ1 _ hp R2 k2 e1 fun σ3 R3=>?_
  refine hc C1 w1 Γ1 σ3 H2 b Γ2 _ R3 e2 fun H4 R4 ev4=>?_
  have hpre4:Ims K H4 ys pre:=(hpre.evo ev1 R'.lst).evo ev4 R3.lst
  cases b with
  | true =>
   rw[if_pos rfl]at e' ⊢
   obtain⟨a,e3,e'⟩:=bind_some e'
   refine he C1 w1 Γ2 σ3 H4 a _ R4 e3 ?_
   cases a with
   | error z=>cases e'; exact fun H5 R5=>kx z rfl σ3 H5 R5
   | ok q =>
    obtain⟨s,Γ3⟩:=q
    obtain⟨t',e4,e'⟩:=bind_some e'
    obtain⟨rest,e5,e'⟩:=zAA e'
    cases e'
    intro v H5 R5 ev5 o5 _
    cases s with
    | l _=>cases e4
    | s _=>cases e4
    | d _=>cases e4
    | v t'' =>
     cases e4
     exact⟨by simp; omega,Γ3,pre++[t'],rest,R5,(hpre4.evo ev5 R4.lst).app (.one o5),e5,by cases rest <;> simp[prepX]⟩
  | false =>
   rw[if_neg Bool.false_ne_true]at e' ⊢
   exact⟨by omega,Γ2,pre,post,R4,hpre4,e',rfl⟩
 ·have:i=its.length:=by omega
  subst this
  rw[List.drop_length]at e'
  cases e'
  exact .inl ⟨stop,by omega,k pre Γ (by simp[prepX]) σ' H' ys R' hpre (by omega)⟩
theorem zFA{ix:List (Option Nat)}{wi:TI}{g:TG}{tc:TT}{te:TE}{di:DI}{tg:En->T->Option En}{dc:DT}{de:DEX}(hi:SimI K wi di)(hg:SimG K none g tg)(hc:SimT K tc dc)(he:SimEX K E te de):SimEX K E (tComp wi ix g tc te) (dCompX ix di tg dc de):=by
 intro C w Γ σ H r Q R e k
 obtain⟨⟨⟨its,src⟩,Γ1⟩,e1,e⟩:=bind_some e
 refine hi C w Γ σ H its src Γ1 _ R e1 fun J H1 R1 ev1 ⟨hl,hJ⟩=>?_
 obtain⟨rr,e2,e⟩:=zAA e
 have Rin:Rep K ⟨H1,[],[]⟩ ⟨[],fun q=>w.R q\/q∈w.L⟩ (pick none ix Γ1) (frm ix σ) H1:=by
  refine⟨by simp[pick,frm],fun j g h=>?_,fun i j p ga gb ma mb h1 h2 h3 h4=>?_,fun p hp=>(nomatch hp),fun p hp=>(nomatch hp),fun p hp=>?_,fun p hp=>(nofun),fun b o h _=>h,fun q hq=>(nomatch hq)⟩
  ·obtain⟨k',g',a1,a2,a3⟩:=zAi h
   obtain⟨v,b1,b2⟩:=R1.val k' g' a2
   refine⟨v,zBj a1 b1,?_⟩
   cases g' with
   | v t=>cases a3; exact b2
   | l xs =>
    have:g=.r xs:=by simpa [pick1] using a3.symm
    subst this
    obtain⟨p,vs,rfl,c1,c2,c3⟩:=b2
    exact⟨p,vs,rfl,c3,c2,nofun,.inr c1⟩
   | r xs =>
    cases a3
    obtain⟨p,vs,rfl,c1,c2⟩:=b2
    exact⟨p,vs,rfl,c1,c2.1,nofun,.inl c2.2.2⟩
   | d xs =>
    cases a3
    obtain⟨p,vs,rfl,c1,c2,c3⟩:=b2
    exact⟨p,vs,rfl,c3,c2,nofun,.inr c1⟩
   | e xs =>
    cases a3
    obtain⟨p,vs,rfl,c1,c2⟩:=b2
    exact⟨p,vs,rfl,c1,c2.1,nofun,.inl c2.2.2⟩
   | k xs=>cases a3; exact b2
  ·obtain⟨k',g',a1,a2,a3⟩:=zAi h1
   cases g' with
   | v t=>cases a3; cases ma
   | l xs =>
    have:ga=.r xs:=by simpa [pick1] using a3.symm
    subst this; cases ma
   | r xs=>cases a3; cases ma
   | k xs=>cases a3; cases ma
   | d xs=>cases a3; cases ma
   | e xs=>cases a3; cases ma
  ·rcases hp with z | z
   ·exact R1.ra p z
   ·obtain⟨o,z,_⟩:=R1.lst p z; exact⟨o,z⟩
 refine zEb (E:=E) (jp:=none) (C1:=⟨H1,[],[]⟩) rfl hg hc he hl rfl (fun H2 ev=>hJ [] (fun p hp=>nomatch hp) (fun _ _ _ _ _=>nofun) H2 ev) (fun p hp=>hp) Rin e2 (fun z hz σ' H' R'=>?_) fun ts Γe hz σ' H' ys R' hy hn D hD=>?_
 ·subst hz
  subst e
  exact k H' (R1.evo0 fun b o h=>R'.frame b o h nofun)
 ·subst hz
  subst e
  have R2:Rep K C w Γ1 σ H':=R1.evo0 fun b o h=>R'.frame b o h nofun
  exact k _ _ (R2.new hD) ((ev1.trans fun b o h _=>R'.frame b o h nofun).trans (Evo.new hD)) (R2.newl hD hy) ⟨_,rfl,zAK (L:=w.L) (ev1.trans fun b o h _=>R'.frame b o h nofun) R2.lst hD⟩
end
def EXF{ι:Type}(K:Fg)(X:ι->Cx)(e:Expr)(f:DEX):Prop:=∃ te:XK->TE,(∀ j E,PEX (X j) E e (te E))/\∀ E,SimEX K E (te E) f
def AXF{ι:Type}(K:Fg)(X:ι->Cx)(es:List Expr)(f:DAX):Prop:=∃ te:XK->TA,(∀ j E,PAX (X j) E es (te E))/\∀ E,SimAX K E (te E) f
section
variable {ι:Type}{P:Program}{wd:World}{base:Heap}{K:Fg}{mg:Str->Option Value}{E:XK}{k k' n:Nat}{X:ι->Cx}{e:Expr}{es:List Expr}{fa:DE}{fx:DEX}{gx:DAX}{da:DA}{F:DF}{p pos:Pos}{x:Str}
theorem exf_plain(h:EX K (onF X) e fa):EXF K X e (dPl fa):=let ⟨t,p,s⟩:=h; ⟨fun _=>t,fun j E=>zJj fun E'=>p (j,E'),fun _=>zDT s⟩
theorem axf_nil:AXF K X [] dNilX:=⟨fun _=>tNil,fun j E=>zIe,fun _=>zCz⟩
theorem axf_cons(ha:EXF K X e fx)(hr:AXF K X es gx)(hs:∀ j,starEach (e::es) (X j).env=(false,eval e (X j).env)::starEach es (X j).env:=by intro _; rfl):AXF K X (e::es) (dConsX fx gx) :=
 let ⟨a,p,s⟩:=ha; let ⟨b,q,u⟩:=hr; ⟨fun E=>tCons (a E) (b E),fun j E=>zG0 (p j E) (q j E) (hs j),fun E=>zCB (s E) (u E)⟩
theorem exf_tup{x1}(h:AXF K X es gx):EXF K X (.Tuple es x1 pos) (dTupX gx):=let ⟨a,p,s⟩:=h; ⟨fun E=>tTup (a E),fun j E=>zIA (p j E),fun E=>zDF (s E)⟩
theorem exf_call(M:Fm K mg k X)(B:Fb P wd base X)(G:FX P wd K mg base k' x n F)(ha:AX K (onF X) (e::es) da)(hk:k'<=k:=by first | exact Nat.le_refl _ | decide | omega)
  (hg:∀ j,Gl (X j) x:=by intro _; rfl) (hdb:(x == ("__debug__":Str))=false:=by decide) (he:∀ i,starEach (e::es) (X i).env=(false,eval e (X i).env)::starEach es (X i).env:=by intro _; rfl) (hpl:∀ i,(backTo pos (starEach es (X i).env)).any (·.1)=false:=by intro _; rfl) :
  EXF K X (.Call (.Name x p) (e::es) [] pos) (dCallX n F da):=by
 obtain⟨t,pa,sa⟩:=ha
 obtain⟨f,fd,ps,g1,g2,g3,g4⟩:=G.ex
 refine⟨fun E=>tCallX (spX K n F) E t,fun i E pins s σ H Q I h=>?_,fun E=>zCQ sa⟩
 exact zE6 (X:=X i) (W:=E) (k:=k') (f:=f) (fd:=fd) (ps:=ps) (sp:=spX K n F) (t:=t) (by rw[B.P,B.w,M.K,M.mg,B.b]; exact g1) ((M.room i).mono hk) (hg i) (by rw[M.mg]; exact g2) (by rw[M.K]; exact g3) (by rw[M.K]; exact g4) (fun E'=>pa (i,E')) hdb (he i) (hpl i) I h
def dTryF(i:Nat)(f:DEX)(cs:List Str)(j:Nat)(fs:DS):DS:=fun Γ=>(f Γ).bind fun r=>match r with
 | .error z=>if z.1.1∈cs then (fs (z.2.set j (some (.v (.x z.1.1 z.1.2))))).map (goO j) else none
 | .ok p=>(setS i p.1 p.2).map .nx
theorem zF7{ip:Option Nat}{i:Nat}{cs:List Str}{Dc:Addr}{j:Nat}{te:XK->TE}{ts:TS}{f:DEX}{fs:DS}(ha:∀ E,SimEX K E (te E) f)(hs:SimS K ip ts fs)(hj:ip≠some j)(hi:ip≠some i)
  (hcat:∀ c∈cs,∀ C,PySem.W.nsIn K mainGlobals c=some (some (.ref C))->catches K C Dc=true):SimS K ip (tTryF K Dc j i te ts) (dTryF i f cs j fs):=by
 intro C w Γ σ H D o hp R e k
 have hnj:∀ q∈C.pins,q.1≠j:=zAM hp hj
 obtain⟨r,e1,e⟩:=bind_some e
 refine ha _ C w Γ σ H r _ R e1 ?_
 cases r with
 | error z =>
  dsimp only at e
  split at e
  rotate_left
  ·cases e
  rename_i hc
  obtain⟨o',e4,rfl⟩:=zAA e
  intro H' R' Ca d H'' hns ext' hd
  refine⟨Ca,rfl,hcat z.1.1 hc Ca hns,fun a ha'=>?_⟩
  have R2:Rep K C w z.2 σ H'':=R'.evo0 ext'
  have R3:Rep K C w z.2 σ (upd H'' a (xo a Ca d)):=R2.new ha'
  have hx:GOk K w (upd H'' a (xo a Ca d)) (.ref a) (.v (.x z.1.1 z.1.2)):=Im.exc ⟨Ca,d,hns,zAF,hd.imp id fun ⟨dx,q1,q2⟩=>⟨dx,q1,by rw[zAB (fun y=>by rw[y,ha']at q2; cases q2)]; exact q2⟩⟩
  exact hs C w _ _ _ (endsJ j D) o' hp (R3.setv rfl hx hnj) e4 (zJB hnj k)
 | ok p =>
  obtain⟨Γ2,e4,rfl⟩:=zAA e
  intro v H1 R1 _ o1 _
  obtain⟨w',R'⟩:=zCZ R1 o1 e4 (zAM hp hi)
  exact k w' _ H1 R'
section
variable {ip:Option Nat}{fs:DS}{cs:List Str}{b₀:Stmt}{suite:List Stmt}{np hpos epos tpos zpos:Pos}{y z nm:Str}
theorem sx_tryF(m j:Nat)(M:Fm K mg k X)(hcat:CatX K mg y cs)(ha:EXF K X e fx)(hs:BX K (innF X) ip (b₀::suite) fs)
  (hjp:ip≠some j:=by decide) (hmp:ip≠some m:=by decide) (hN:∀ i,(X i).N.Nodup:=by intro _; show (List.Nodup _); decide +kernel) (hj:∀ i,(X i).N[j]?=some nm:=by intro _; rfl) (hkl:∀ i,(X i).env.scope.names.lookup nm=some .local:=by intro _; rfl)
  (hm:∀ i,(X i).N[m]?=some z:=by intro _; rfl) (hzl:∀ i,Loc (X i).env.scope z:=by intro _; first | exact Or.inl rfl | exact Or.inr rfl) (hzf:∀ i,(X i).fn z=true\/(X i).env.scope.names.lookup z=some .local:=by intro _; first | exact .inl rfl | exact .inr rfl)
  (hgy:∀ i,Gl (X i) y:=by intro _; rfl) (hst:∀ i,(X i).stack=(X i).env::(X i).outer:=by intro _; rfl) (hex:∀ i,(X i).ex=[]:=by intro _; rfl) (hfr:∀ i,(X i).env.frame=some (X i).env.locals:=by intro _; rfl) (hyd:(y == ("__debug__":Str))=false:=by decide)
  (hsw:∀ i,swapsWith e (some (.Name z zpos)) epos.line (X i).env=pure false:=by intro _; rfl) :
  SX K X ip (.Try [.Assign [.Name z zpos] e epos] [.ExceptHandler (some (.Name y np)) (some nm) (b₀::suite) hpos] [] [] tpos) (dTryF m fx cs j fs):=by
 obtain⟨te,pa,sa⟩:=ha
 obtain⟨ts,pss,ss⟩:=hs
 obtain⟨Dc,d1,d2⟩:=hcat
 refine⟨tTryF K Dc j m te ts,fun i=>?_,zF7 sa ss hjp hmp d2⟩
 have:=zIj (X:=X i) (Dc:=Dc) (j:=j) (n:=nm) (te:=te) (ts:=ts) (np:=np) (hpos:=hpos) (tpos:=tpos) (epos:=epos) (zpos:=zpos) (pa i) (hm i) (hzl i) (hzf i) (hst i) (hex i) (hfr i) (hN i) (hj i) (hkl i) (hgy i) (by rw[M.mg]; exact d1) hyd (fun a E'=>pss (i,a,E')) (hsw i)
 rw[M.K i]at this
 exact this
end
end
section
variable {P:Program}{wd:World}{base:Heap}{K:Fg}{mg:Str->Option Value}{E:XK}{k:Nat}{N:List Str}{qual:Str}{sc:Scope}{f:Addr}{cdv:Value}{A:Around}{outer:List Env}{s:Shared}{H:Hp}{x:Str}{pos:Pos}
theorem sxx_setC{N':List Str}{ix:List (Option Nat)}{sc':Scope}{elt tg iter:Expr}{ifs:List Expr}{di:DI}{gg:En->T->Option En}{dc:DT}{de:DEX}{pos' spos:Pos}(i:Nat)(M:Fm K mg k (cxR P wd K mg base N qual sc f cdv A outer s H E))(S:∀ j,CompOk (cxR P wd K mg base N qual sc f cdv A outer s H E j) N' ix sc')(h1:IX K (cxR P wd K mg base N qual sc f cdv A outer s H E) tg iter di)
  (hg:GX K (cxF (cxR P wd K mg base N qual sc f cdv A outer s H E) N' sc') none tg gg) (ht:QX K (cxF (cxR P wd K mg base N qual sc f cdv A outer s H E) N' sc') ifs dc) (he:EXF K (cxF (cxR P wd K mg base N qual sc f cdv A outer s H E) N' sc') elt de)
  (hN:∀ j,(cxR P wd K mg base N qual sc f cdv A outer s H E j).N.Nodup:=by intro _; show (List.Nodup _); decide +kernel) (hx':∀ j,(cxR P wd K mg base N qual sc f cdv A outer s H E j).N[i]?=some x:=by intro _; rfl) (hx:∀ j,Loc (cxR P wd K mg base N qual sc f cdv A outer s H E j).env.scope x:=by intro _; first | exact Or.inl rfl | exact Or.inr rfl)
  (hsw:∀ j,swapsWith (.ListComp elt [⟨tg,iter,ifs,0⟩] sc' pos) (some (.Name x pos')) spos.line (cxR P wd K mg base N qual sc f cdv A outer s H E j).env=pure true:=by intro _; rfl)
  (hs:∀ j x,foldedSetIterable iter (cxR P wd K mg base N qual sc f cdv A outer s H E j).env x=pure x:=by intro _ _; rfl):SXX K E (cxR P wd K mg base N qual sc f cdv A outer s H E) (.Assign [.Name x pos'] (.ListComp elt [⟨tg,iter,ifs,0⟩] sc' pos) spos) (dSetX i (dCompX ix di gg dc de)):=by
 obtain⟨_,p1,s1⟩:=h1
 obtain⟨_,p2,s2⟩:=hg
 obtain⟨_,p3,s3⟩:=ht
 obtain⟨_,p4,s4⟩:=he
 exact⟨_,fun j=>zG2 (E:=E) (hN j) (hx' j) (hx j) (S j) (M.calm j) (p1 j) (fun C cs s H ex=>p2 (j,C,cs,s,H,ex)) (fun C cs s H ex=>p3 (j,C,cs,s,H,ex)) (fun C cs s H ex=>p4 (j,C,cs,s,H,ex) E) rfl (fun I x a b c d e f g h i l m n=>zHs I x a b c d e f g h i l m n) (hsw j) (.inl rfl) (hs j),zD8 (zFA s1 s2 s3 (s4 E))⟩
end
section
variable {Γ:En}{fx:DEX}{i j:Nat}{cs:List Str}{fs:DS}{ix:List (Option Nat)}{di:DI}{tg:En->T->Option En}{dc:DT}{t:T}{r:List T}
theorem dTryF_ap:dTryF i fx cs j fs Γ=(fx Γ).bind fun r=>match r with
 | .error z=>if z.1.1∈cs then (fs (z.2.set j (some (.v (.x z.1.1 z.1.2))))).map (goO j) else none
 | .ok p=>(setS i p.1 p.2).map .nx:=(rfl)
theorem zC9:dCompX ix di tg dc fx Γ=(di Γ).bind fun p=>(compDX tg dc fx p.1.1 (pick none ix p.2)).map fun z=>match z with
 | .error z=>.error (z.1,p.2)
 | .ok z=>.ok (.l z.1,p.2):=(rfl)
end
end D
namespace L2
open PySem PySem.Spec PyProof.Rows
structure RoomH(k:Nat)(A:Around):Prop where
 dp:A.depth+3 * k+5 < recursionLimit
 un:A.units+16 * k+200 < cLine
 gd:A.guards=some []
theorem RoomH.mono{j k:Nat}{A:Around}(r:RoomH k A)(h:j<=k):RoomH j A:=⟨by have:=r.dp; omega,by have:=r.un; omega,r.gd⟩
structure FnOkH(P:Program)(w:World)(K:PySem.W.Frag)(mg:Str->Option Value)(base:Heap)(k:Nat)(f:Addr)(fd:FuncData)(ps:List Str)(sp:Sp):Prop where
 len:∀ vs H Q E,sp vs H Q E->vs.length=ps.length
 run:∀ (A:Around) (outer:List Env) (s:Shared) (H:Hp) (args:Args) (us:List Value) (vs:List V) (Q:VK) (E:XK),RoomH k A->Env0 P w K mg base A outer s H->BindsTo s fd args (ps.zip us)->Vals vs us->sp vs H Q E ->
  codeAny (model P w) A (.call (.ref f) args) (CR CX0 outer P w H s Q E) s
abbrev cxH(CX:CXT)(P:Program)(w:World)(K:PySem.W.Frag)(mg:Str->Option Value)(base:Heap)(N:List Str)(qual:Str)(scope:Scope)(f:Addr)(cd:Value)(A:Around)(outer:List Env)(s:Shared)(H:Hp)(E:XK):Cx:={ cxOf CX P w K mg base N qual scope f cd A outer s H E with calm:=false }
theorem zFQ{CX:CXT}{P:Program}{w:World}{K:PySem.W.Frag}{mg:Str->Option Value}{base:Heap}{N ps:List Str}{qual:Str}{scope:Scope}{f:Addr}{cd:Value}{A:Around}{outer:List Env}{s s1:Shared}{H:Hp}{E:XK}{us:List Value}{vs:List V}
  (S:FnScope N ps scope) (e0:Env0 P w K mg base A outer s H) (hl:vs.length=ps.length) (r:Vals vs us)
  (x:InCallC s s.heap.objs.size (bindL (envOfC qual scope s.heap.objs.size f cd).kindOf (ps.zip us) fun _=>none) (cellsFrom (s.heap.objs.size+1) scope.names []) (bindC (envOfC qual scope s.heap.objs.size f cd).kindOf (ps.zip us) fun _=>none) s1) :
  Inv (cxH CX P w K mg base N qual scope f cd A outer s H E) [] (start N vs) H s1:=by
 have hpl:ps.length<=N.length:=by have:=congrArg List.length S.pre; rw[List.length_take]at this; omega
 obtain⟨h1,tk,rfl,hk⟩:=x.done
 have noA:∀ b:Addr,b∉(cxH CX P w K mg base N qual scope f cd A outer s H E).ex:=fun b z=>absurd (show b∈([]:List Addr) from z) (by simp)
 refine⟨⟨e0.mod,S.kind,rfl,rfl,Nat.le_refl _,fun y z c h1 h2=>?_,fun y hy=>?_,fun y c _ h=>?_,fun z=>Bool.noConfusion z,Around.frames_deeper e0.frames,.inr ⟨rfl,rfl⟩,fun b z=>absurd z (noA b),e0.bs,e0.bsz,fun b _ _=>noA b,fun b z=>absurd z (noA b),e0.funs,e0.frf⟩,
  rfl,e0.bare,Un.kept hk,⟨_,x.toInCall.ns,fun i y v h1 h2 h3=>?_⟩,fun y c h=>⟨_,x.cell y c h⟩,e0.hok.fresh (Nat.le_refl _),fun y c h=>?_,fun p hp=>absurd (show p∈([]:List (Addr×Obj)) from hp) (by simp),e0.hok.kept hk,?_⟩
 ·exact name_of_addr x.apart (PySem.mem_of_lookup h1) (PySem.mem_of_lookup h2)
 ·have hy:scope.names.lookup y=some .cell\/scope.names.lookup y=some .free:=hy
  rcases hy with hy | hy
  ·exact zA9 hy
  ·exact absurd rfl (S.nofree _ (PySem.mem_of_lookup hy))
 ·exact Nat.le_of_lt (x.above y c (PySem.mem_of_lookup h))
 ·have hi:i < vs.length:=by
   unfold start at h2
   by_cases hi:i < vs.length
   ·exact hi
   ·rw[List.getElem?_append_right (by simpa using hi)]at h2
    rw[List.getElem?_replicate]at h2
    split at h2 <;> cases h2
  have ha:vs[i]?=some v:=by
   unfold start at h2
   rw[List.getElem?_append_left (by simpa using hi),List.getElem?_map]at h2
   cases e:vs[i]? with
   | none=>rw[e]at h2; cases h2
   | some a=>rw[e]at h2; cases h2; rfl
  obtain⟨u,hu,rv⟩:=r.get ha
  have hp:ps[i]?=some y:=by
   rw[← S.pre,List.getElem?_take_of_lt (by omega)]; exact h1
  have ndP:ps.Nodup:=by rw[← S.pre]; exact S.nd.sublist (List.take_sublist _ _)
  refine⟨u,rv,?_⟩
  rcases S.par y (List.mem_of_getElem? hp) with k | k
  ·exact .inl ⟨k,zBO ndP hp hu k⟩
  ·obtain⟨c,e⟩:=zA9 (n:=s.heap.objs.size+1) k
   refine .inr ⟨.inl k,c,e,?_⟩
   have q:=x.cell y c e
   rw[zBS ndP hp hu (by show scope.names.lookup y≠_; rw[k]; decide)]at q
   exact q
 ·exact e0.hok.fresh (Nat.le_of_lt (x.above y c (PySem.mem_of_lookup h)))
 ·unfold start
  show _=N.length
  rw[List.length_append,List.length_map,List.length_replicate]
  omega
theorem zJh{P:Program}{w:World}{K:PySem.W.Frag}{mg:Str->Option Value}{base:Heap}{k:Nat}{f:Addr}{name qual:Str}{params:Arguments}{body:List Stmt}{scope:Scope}{dV kV doc pm cdv ct oc:Value}{an od:Option Addr}
  {osl:Array (Option Value)} {N ps:List Str} {sp:Sp} (lk:K.lookup f=some ⟨oc,od,.func (PySem.W.fnOf name qual params body scope dV kV doc pm an cdv ct),osl⟩) (hcd:PySem.W.codeIn K cdv qual=true) (S:FnScope N ps scope)
  (len:∀ vs H Q E,sp vs H Q E->vs.length=ps.length)
  (hbody:∀ (A:Around) (outer:List Env) (s:Shared) (H:Hp) (vs:List V) (Q:VK) (E:XK),sp vs H Q E ->
   ∃ t,PSs (cxH CX0 P w K mg base N qual scope f cdv A outer s H E) body t/\t { nx:=fun _ H'=>Q .non H',rt:=Q } (start N vs) H) :
  FnOkH P w K mg base (k+1) f (PySem.W.fnOf name qual params body scope dV kV doc pm an cdv ct) ps sp:=by
 refine⟨len,fun A outer s H args us vs Q E hr e0 hb r hsp=>?_⟩
 have hl:=len _ _ _ _ hsp
 have KX:K.In s.heap:=e0.mod.kin.keeps fun b o e=>(e0.bs b o e).1
 have lim:s.heap.NoLimit:=e0.mod.nolimit.keeps fun b o e=>(e0.bs b o e).1
 have hkind:∀ y∈ps.zip us,scope.names.lookup y.1=some .local\/(scope.names.lookup y.1=some .cell/\((cellsFrom (s.heap.objs.size+1) scope.names []).lookup y.1).isSome=true):=fun ⟨n,v⟩ hy=>by
  rcases S.par n (List.of_mem_zip hy).1 with q | q
  ·exact .inl q
  ·exact .inr ⟨q,PySem.W.cellsFrom_some _ _ _ (.inl q)⟩
 refine codeAny_call_function (by have:=hr.dp; omega) (KX _ _ lk) rfl S.co S.gen rfl (PySem.W.codeRec_of KX hcd) (hb _ _ _ _ ?_)
 refine wpAny_newFunctionEnv_cells S.kind hkind fun env he s1 x=>?_
 subst he
 refine⟨lim.keeps x.toInCall.keep,codeAny_func ?_⟩
 obtain⟨t,ht,hq⟩:=hbody A outer s H vs Q E hsp
 have I:Inv (cxH CX0 P w K mg base N qual scope f cdv A outer s H E) [] (start N vs) H s1:=zFQ S e0 hl r x
 refine wpAny_mono (ht [] s1 (start N vs) H _ I hq) (fun fl s' hs=>?_) fun e s' hs=>hs
 have fin:∀ {σ':St} {H':Hp} {v:V} {u:Value},Inv (cxH CX0 P w K mg base N qual scope f cdv A outer s H E) [] σ' H' s'->RelV v u->Q v H'->CE outer P w H s Q u s' :=
  fun {σ' H' v u} J rv q=>⟨v,H',J.os,J.bare,J.base,J.hok,rv,q⟩
 cases fl with
 | ret u =>
  obtain⟨v,σ',H',J,rv,q⟩:=hs
  exact fin J rv q
 | next =>
  obtain⟨σ',H',J,q⟩:=hs
  exact fin (v:=V.non) (u:=Value.none) J rfl q
 | brk =>
  obtain⟨_,_,_,q⟩:=hs
  exact False.elim q
 | cont =>
  obtain⟨_,_,_,q⟩:=hs
  exact False.elim q
section
variable {X:Cx}{k:Nat}{f:Addr}{fd:FuncData}{ps:List Str}{sp:Sp}{E:XK}{x:Str}{p pos:Pos}{e:Expr}{es:List Expr}{t:TA}
theorem zG1(F:FnOkH X.prog X.w X.K X.mg X.base k f fd ps sp)(hr:RoomH k X.A)(hg:Gl X x)(hm:X.mg x=some (.ref f))(hk:PySem.W.keepIn X.K (.ref f)=true)(hb:Binds X.K fd ps [])(hx:Passes CX0 X E)
  (ha:PA X (e::es) t) (hdb:(x == ("__debug__":Str))=false:=by decide) (he:starEach (e::es) X.env=(false,eval e X.env)::starEach es X.env:=by rfl) (hpl:(backTo pos (starEach es X.env)).any (·.1)=false:=by rfl) :
  PE X (.Call (.Name x p) (e::es) [] pos) (tCall sp [] E t):=by
 intro pins s σ H Q I h
 refine wpAny_Call_Name_kw (zAh I hg hm ?_ hdb)
 refine PySem.W.callWith_K (h₀:=X.base) I.ok.mod.kin hk (thn (ha pos pins s σ H _ I h) fun us s1 ⟨vs,H1,I1,r,q⟩=>⟨I1.kIn,?_⟩) he hpl
 have r2:Vals (vs++[]) (us++[]):=r.append .nil
 have hl:(us++([]:List Value)).length=ps.length:=by rw[← r2.length]; exact F.len _ _ _ _ q
 refine wpAny_call (codeAny_mono (F.run X.A X.stack s1 H1 ⟨us,[]⟩ (us++[]) (vs++[]) Q E hr I1.env0 (hb s1 us I1.kIn hl) r2 q) fun r s' hq=>?_)
 cases r with
 | error e=>exact hx pins σ H1 s1 e s' I1 hq
 | ok fl =>
  cases fl with
  | ret u=>exact I1.after hq
  | next=>exact False.elim hq
  | brk=>exact False.elim hq
  | cont=>exact False.elim hq
end
end L2
namespace D
open PySem L2
structure Fh{ι:Type}(K:Fg)(mg:Str->Option Value)(X:ι->Cx):Prop where
 K:∀ j,(X j).K=K
 mg:∀ j,(X j).mg=mg
structure Fi{ι:Type}(K:Fg)(mg:Str->Option Value)(k:Nat)(X:ι->Cx):Prop extends Fh K mg X where
 room:∀ j,RoomH k (X j).A
structure FH(P:Program)(wd:World)(K:Fg)(mg:Str->Option Value)(base:Heap)(k:Nat)(x:Str)(ip:Option Nat)(n:Nat)(F:DF):Prop where
 ex:∃ (f:Addr) (fd:FuncData) (ps:List Str),FnOkH P wd K mg base k f fd ps (spD K ip n F)/\mg x=some (.ref f)/\PySem.W.keepIn K (.ref f)=true/\Binds K fd ps []
 len:∀ gs r,F gs=some r->gs.length=n
section
variable {ι:Type}{P:Program}{wd:World}{base:Heap}{K:Fg}{mg:Str->Option Value}{k k' n:Nat}{X:ι->Cx}{ip:Option Nat}{a e:Expr}{es:List Expr}{fa:DE}{da:DA}{F:DF}{p pos:Pos}{x:Str}
theorem Fm.inn(M:Fm K mg k X):Fi K mg k (innF X):=⟨⟨fun q=>M.K q.1,fun q=>M.mg q.1⟩,fun q=>⟨(M.room q.1).dp,(M.room q.1).un,(M.room q.1).gd⟩⟩
theorem Fb.inn(B:Fb P wd base X):Fb P wd base (innF X):=⟨fun q=>B.P q.1,fun q=>B.w q.1,fun q=>B.b q.1⟩
theorem ex_callH(M:Fi K mg k X)(B:Fb P wd base X)(D0:FH P wd K mg base k' x ip n F)(ha:AX K X (e::es) da)(hk:k'<=k:=by first | exact Nat.le_refl _ | decide | omega)(hg:∀ j,Gl (X j) x:=by intro _; rfl)(hdb:(x == ("__debug__":Str))=false:=by decide)
  (he:∀ j,starEach (e::es) (X j).env=(false,eval e (X j).env)::starEach es (X j).env:=by intro _; rfl) (hpl:∀ j,(backTo pos (starEach es (X j).env)).any (·.1)=false:=by intro _; rfl) :
  EX K X (.Call (.Name x p) (e::es) [] pos) (dCall ip F [] da):=by
 obtain⟨f,fd,ps,h1,h2,h3,h4⟩:=D0.ex
 obtain⟨t,q,u⟩:=ha
 refine⟨tCall (spD K ip n F) [] E0 t,fun j=>?_,zB3 D0.len u⟩
 have hF:FnOkH (X j).prog (X j).w (X j).K (X j).mg (X j).base k' f fd ps (spD K ip n F):=by rw[B.P,B.w,M.K,M.mg,B.b]; exact h1
 exact zG1 hF ((M.room j).mono hk) (hg j) (by rw[M.mg]; exact h2) (by rw[M.K]; exact h3) (by rw[M.K]; exact h4) pass0 (q j) hdb (he j) (hpl j)
theorem tx_vH(M:Fh K mg X)(ha:EX K X a fa)(he:∀ j whole,isTrue a (X j).env whole=(do let v ← whole; standAt a.pos; holding [v] (truthy v)):=by intro _ _; rfl):TX K X a (dTru fa) :=
 let ⟨te,p,s⟩:=ha; ⟨(fun σ H Q=>te σ H fun x H'=>∃ k,TruV K x H' k/\Q k H'),fun j=>by have:=zDq (p j) (he j); rw[M.K j]at this; exact this,zE2 s⟩
theorem ex_cbH{id:String}{h:En->List S->Option S}(M:Fh K mg X)(hc:CalR K X (.builtin id) h)(hm:mg x=none)(hv:bootBuiltins x=some (.builtin id))(ha:AX K X (e::es) da)(hg:∀ j,Gl (X j) x:=by intro _; rfl)(hn:x≠"__name__":=by decide)(hdb:(x == ("__debug__":Str))=false:=by decide)
  (he:∀ j,starEach (e::es) (X j).env=(false,eval e (X j).env)::starEach es (X j).env:=by intro _; rfl) (hpl:∀ j,(backTo pos (starEach es (X j).env)).any (·.1)=false:=by intro _; rfl):EX K X (.Call (.Name x p) (e::es) [] pos) (dCB h da) :=
 let ⟨_,p,s⟩:=hc.ex; let ⟨_,q,u⟩:=ha; ⟨_,fun j=>zEJ (p j) (hg j) (by rw[M.mg]; exact hm) hv (q j) hn hdb (he j) (hpl j),zDR s u⟩
theorem ex_tyH{N:String}(M:Fh K mg X)(hm:mg x=none)(hv:bootBuiltins x=some (.type N))(hg:∀ j,Gl (X j) x:=by intro _; rfl)(hn:x≠"__name__":=by decide)(hd:(x == ("__debug__":Str))=false:=by decide):EX K X (.Name x pos) (dC (.ty N)) :=
 ⟨_,fun j=>zHx (hg j) (by rw[M.mg]; exact hm) hv hn hd,zCL⟩
theorem ex_fnH(M:Fh K mg X)(h:NK K mg x)(hg:∀ j,Gl (X j) x:=by intro _; rfl)(hd:(x == ("__debug__":Str))=false:=by decide):EX K X (.Name x pos) (dFn x):=by
 obtain⟨f,h1,h2⟩:=h
 exact⟨_,fun j=>zEv (v:=.ref f) (hg j) (by rw[M.mg]; exact h2) rfl hd,zJn h1⟩
theorem br_isiH(M:Fh K mg X):CalR K X (.builtin "isinstance") isiS:=⟨_,fun j=>by have:=zC2 (X:=X j); rw[M.K j]at this; exact this,zDC⟩
theorem br_isXH{cs:List Str}{mro:List (Str×List Str)}(M:Fh K mg X)(hx:XKC K cs mro=true):CalR K X (.builtin "isinstance") (isXS cs mro):=⟨_,fun j=>by have:=zG9 (X:=X j); rw[M.K j]at this; exact this,zFu hx⟩
theorem ex_getXH{gk:List (Str×Str)}{n:Str}{o:Expr}{fo:DE}(M:Fh K mg X)(hk:XGC K gk=true)(ho:EX K X o fo)(hb:∀ j,attributeBase o n (X j).env (eval o (X j).env)=eval o (X j).env:=by intro _; rfl):EX K X (.Attribute o n pos) (dGetX gk n fo) :=
 let ⟨_,p,s⟩:=ho; ⟨_,fun j=>by have:=zIz (n:=n) (pos:=pos) (p j) (hb j); rw[M.K j]at this; exact this,zHC hk s⟩
end
section
variable {P:Program}{wd:World}{base:Heap}{K:Fg}{mg:Str->Option Value}{k:Nat}
abbrev cxh1(P:Program)(wd:World)(K:Fg)(mg:Str->Option Value)(base:Heap)(N:List Str)(qual:Str)(sc:Scope)(f:Addr)(cdv:Value)(A:Around)(outer:List Env)(s:Shared)(H:Hp)(E:XK):Unit->Cx:=fun _=>(cxH CX0 P wd K mg base N qual sc f cdv A outer s H E).nox
theorem fh_of{x:Str}{st:Stmt}{f:Addr}{fd:FuncData}{N ps:List Str}{ip:Option Nat}{g:DS}(F:Fun K x x st f fd)(S:FnScope N ps (defScope st))(hm:mg x=some (.ref f))(hb:Binds K fd ps [])
  (body:∀ (cdv:Value) (A:Around) (outer:List Env) (s:Shared) (H:Hp) (E:XK),Fh K mg (cxh1 P wd K mg base N x (defScope st) f cdv A outer s H E)->BX K (cxh1 P wd K mg base N x (defScope st) f cdv A outer s H E) ip (defBody st) g) :
  FH P wd K mg base (k+1) x ip ps.length (fnD ip ps.length N.length g):=by
 refine⟨⟨f,fd,ps,?_,hm,F.kp,hb⟩,zBZ⟩
 obtain⟨oc,od,kV,doc,pm,an,cdv,ct,osl,rfl,lk,hcd⟩:=F.ex
 refine zJh lk hcd S (fun vs H Q E h=>h.1) fun A outer s H vs Q E h=>?_
 obtain⟨t,p,u⟩:=body cdv A outer s H E ⟨fun _=>rfl,fun _=>rfl⟩
 exact⟨t,(p ()).nox,zBh u h⟩
end
end D
namespace Lw
open PySem.W (mg_of mg_none_of nsIn fnOf)
open PyProof.Rows (boot_all boot_bool boot_isinstance boot_list boot_sorted boot_str boot_tuple)
open PySem L2 D
def top(i:Nat):Stmt:=PySem.Challenge.pw_fivecups_k15_texts_of_no_dance.main.body.getD i (.Pass ⟨0,0,0,0⟩)
section
variable {P:Program}{wd:World}{K:PySem.W.Frag}{mg:Str->Option Value}{base:Heap}
def c_FIGURES:T:=.a (.str "01234")
abbrev csX:List Str:=["CupError","BadText","NoDance","NoRing","TooHeavy","OtherSizes","NoName","NoRow"]
abbrev mroX:List (Str×List Str):=[("CupError",["CupError"]),("BadText",["BadText","CupError"]),("NoDance",["NoDance","CupError"]),("NoRing",["NoRing","CupError"]),("TooHeavy",["TooHeavy","CupError"]),("OtherSizes",["OtherSizes","CupError"]),("NoName",["NoName","CupError"]),("NoRow",["NoRow","CupError"])]
abbrev gkX:List (Str×Str):=[("BadText","row"),("NoDance","word"),("NoDance","at"),("TooHeavy","weight"),("NoName","name")]
def ini(s:Stmt):Stmt:=match s with
 | .ClassDef _ _ _ (b::_) _ _ _ _ _ _ _=>b
 | s=>s
local macro_rules | `(tactic| walk_at "s") => `(tactic| exact ⟨rfl,rfl,rfl,by decide +kernel,rfl,by decide +kernel,by decide +kernel⟩)
abbrev zAW:Stmt:=ini (top 2)
theorem zEM:FnScope ["self","row"] ["self","row"] (defScope zAW):=by walk_at "s"
abbrev fuel_0:Nat:=12
abbrev st_1:Stmt:=top 19
theorem sc_1:FnScope ["_law_script","_law_k","_law_cell","_law_seed"] ["_law_script","_law_k"] (defScope st_1):=by walk_at "s"
def d_1:DS:=dSeq (dSet 2 (dOp addS (dOp mulS (dC (.int 7919)) (jV 1)) (dC (.int 11))))
 (dSeq (dIf (dTest (dOp ltS (jV 1) (dCB lenS (jW (jV 0) qQ)))) (dSet 2 (dOp ixS (jV 0) (jV 1))) (dIf (dTest (dOp gtS (dCB lenS (jW (jV 0) qQ)) (dC (.int 0)))) (dSet 2 (dOp addS (jV 2) (dOp mulS (dOp modS (dOp ixS (jV 0) (dOp modS (jV 1) (dCB lenS (jW (jV 0) qQ)))) (dC (.int 2147483629))) (dC (.int 69623))))) dNext))
 (dSeq (dSet 3 (dOp addS (dOp modS (dOp addS (dOp mulS (dOp modS (jV 2) (dC (.int 2147483629))) (dC (.int 48271))) (dOp mulS (dC (.int 40692)) (jV 1))) (dC (.int 2147483629))) (dC (.int 1))))
 (dRet (dLst (jW (dOp ixS (dLst (jW (dC (.int 0)) (jW (jV 2) qQ))) (dCB intS (jW (dOp geS (jV 2) (dOp powS (dC (.int 10)) (dC (.int 18)))) qQ))) (jW (jV 3) qQ))))))
def F_1:DF:=fnD none 2 4 d_1
theorem ok_1{f:Addr}{fd:FuncData}(Fn:Fun K "_law_box" "_law_box" st_1 f fd)(hm:mg "_law_box"=some (.ref f))(hb:Binds K fd ["_law_script","_law_k"] [])(z_int:mg "int"=none)(z_len:mg "len"=none):FD P wd K mg base (1) "_law_box" none 2 F_1 :=
 fd_of (k:=0) Fn sc_1 hm hb fun cdv A outer s H E M B=>bx_cons (sx_set 2 (ex_add M (zAt jJ (jZ 1)) jJ) (hN:=fun _=>sc_1.nd))
 (bx_cons (sx_if (tx_c cr_lt (jZ 1) (ex_cb M (br_len M) z_len PySem.boot_len (jQ (jZ 0) jY))) (bx_one (sx_set 2 (ex_ix M (jZ 0) (jZ 1)) (hN:=fun _=>sc_1.nd))) (bx_one (sx_if (tx_c zCE (ex_cb M (br_len M) z_len PySem.boot_len (jQ (jZ 0) jY)) jJ) (bx_one (sx_set 2 (ex_add M (jZ 2) (zAt (zAk (ex_ix M (jZ 0) (zAk (jZ 1) (ex_cb M (br_len M) z_len PySem.boot_len (jQ (jZ 0) jY)))) jJ) jJ)) (hN:=fun _=>sc_1.nd))) bx_nil)))
 (bx_cons (sx_set 3 (ex_add M (zAk (ex_add M (zAt (zAk (jZ 2) jJ) jJ) (zAt jJ (jZ 1))) jJ) jJ) (hN:=fun _=>sc_1.nd))
 (bx_one (sx_ret (ex_lst (jQ (ex_ix M (ex_lst (jQ jJ (jQ (jZ 2) jY))) (ex_ct M (tr_int) z_int (by decide +kernel) (jQ (ex_c zJ8 (jZ 2) (zJz jJ jJ)) jY))) (jQ (jZ 3) jY)))))))
def zGe:DE:=dCB strS (jW (jV 0) qQ)
abbrev st_2:Stmt:=top 26
theorem sc_2:FnScope ["_law_numbers"] ["_law_numbers"] (defScope st_2):=by walk_at "s"
def d_2:DS:=dRet (dSM joinS (dC (.str "")) (jW (dComp none [none] (dSeqI (jV 0)) (gdName 0) dYes (zGe)) qQ))
def F_2:DF:=fnD none 1 1 d_2
theorem ok_2{f:Addr}{fd:FuncData}(Fn:Fun K "_law_row_text" "_law_row_text" st_2 f fd)(hm:mg "_law_row_text"=some (.ref f))(hb:Binds K fd ["_law_numbers"] [])(z_str:mg "str"=none):FD P wd K mg base (1) "_law_row_text" none 1 F_2 :=
 fd_of (k:=0) Fn sc_2 hm hb fun cdv A outer s H E M B=>bx_one (sx_ret (ex_sm M PySem.F.slot_str_join PySem.F.type_str_join (fun _=>mt_join) sims_join ex_str (jQ (ex_comp none (N':=["_law_number"]) (ix:=[none]) M (fun _=>⟨rfl,by kernel_rfl⟩) (ix_seq' M (jZ 0)) (gx_name 0 (hN:=fun _=>(by show (["_law_number"]:List Str).Nodup; decide +kernel))) qx_nil (ex_ct M.comp (tr_str) z_str boot_str (jQ (jZ 0) jY)) (hix:=hix0)) jY)))
def d_3_b1:DS:=dDrop (dMut 1 hAppend (jW (dOp addS (dOp addS (dOp addS (dOp addS (dCB strS (jW (jV 2) qQ)) (dC (.str " "))) (dCall none F_2 [] (jW (jV 3) qQ))) (dC (.str " "))) (dCall none F_2 [] (jW (jV 4) qQ))) qQ))
abbrev st_3:Stmt:=top 27
theorem sc_3:FnScope ["_law_dance_here","_law_rows","_law_q","_law_yes","_law_no"] ["_law_dance_here"] (defScope st_3):=by walk_at "s"
def d_3:DS:=dSeq (dSet 1 (dLst (jW (dOp addS (dOp addS (dOp addS (dC (.str "cups ")) (dCB strS (jW (dOp ixS (jV 0) (dC (.int 0))) qQ))) (dC (.str " questions "))) (dCB strS (jW (dOp ixS (jV 0) (dC (.int 1))) qQ))) qQ)))
 (dSeq (dFor none (dSeqI (dOp ixS (jV 0) (dC (.int 2)))) (gdTup 3 (gdCons (gdName 2) (gdCons (gdName 3) (gdCons (gdName 4) gdNil)))) (d_3_b1))
 (dRet (jV 1)))
def F_3:DF:=fnD none 1 5 d_3
theorem ok_3{f:Addr}{fd:FuncData}(Fn:Fun K "_law_dance_rows" "_law_dance_rows" st_3 f fd)(hm:mg "_law_dance_rows"=some (.ref f))(hb:Binds K fd ["_law_dance_here"] [])(z_str:mg "str"=none)(D_2:FD P wd K mg base (1) "_law_row_text" none 1 F_2):FD P wd K mg base (2) "_law_dance_rows" none 1 F_3 :=
 fd_of (k:=1) Fn sc_3 hm hb fun cdv A outer s H E M B=>bx_cons (sx_set 1 (ex_lst (jQ (ex_add M (ex_add M (ex_add M ex_str (ex_ct M (tr_str) z_str boot_str (jQ (ex_ix M (jZ 0) jJ) jY))) ex_str) (ex_ct M (tr_str) z_str boot_str (jQ (ex_ix M (jZ 0) jJ) jY))) jY)) (hN:=fun _=>sc_3.nd))
 (bx_cons (sx_for M (fun _=>PassesOwn.never) (ix_seq' M (ex_ix M (jZ 0) jJ)) (gx_tup 3 M (gxs_cons (gx_name 2 (hN:=fun _=>sc_3.nd)) (gxs_cons (gx_name 3 (hN:=fun _=>sc_3.nd)) (gxs_cons (gx_name 4 (hN:=fun _=>sc_3.nd)) gxs_nil)))) (bx_one (sx_expr (ex_mut M PySem.F.slot_list_append PySem.F.type_list_append (fun _=>mt_append) mut_append (pv' 1) (jQ (ex_add M (ex_add M (ex_add M (ex_add M (ex_ct M (tr_str) z_str boot_str (jQ (jZ 2) jY)) ex_str) (ex_call M B D_2 (jQ (jZ 3) jY))) ex_str) (ex_call M B D_2 (jQ (jZ 4) jY))) jY)))))
 (bx_one (sx_ret (jZ 1))))
abbrev st_4:Stmt:=top 20
theorem sc_4:FnScope ["_law_box_here","_law_wide","_law_digit","_law_one"] ["_law_box_here","_law_wide"] (defScope st_4):=by walk_at "s"
def d_4:DS:=dSeq (dIf (dTest (dOp gtS (dOp ixS (jV 0) (dC (.int 0))) (dC (.int 0)))) (dSeq (dSet 2 (dOp modS (dOp ixS (jV 0) (dC (.int 0))) (jV 1)))
 (dSeq (dSetIx 0 (dOp fdivS (dOp ixS (jV 0) (dC (.int 0))) (jV 1)) (dC (.int 0)))
 (dRet (jV 2)))) dNext)
 (dSeq (dSet 3 (dOp modS (dOp mulS (dOp ixS (jV 0) (dC (.int 1))) (dC (.int 69623))) (dC (.int 2147483647))))
 (dSeq (dSetIx 0 (dOp addS (dOp modS (dOp addS (dOp mulS (jV 3) (dC (.int 48271))) (dC (.int 30103))) (dC (.int 2147483629))) (dC (.int 1))) (dC (.int 1)))
 (dRet (dOp modS (dOp fdivS (dOp addS (dOp mulS (jV 3) (dC (.int 2147483647))) (dOp ixS (jV 0) (dC (.int 1)))) (dC (.int 8191))) (jV 1)))))
def F_4:DF:=fnD (some 0) 2 4 d_4
theorem ok_4{f:Addr}{fd:FuncData}(Fn:Fun K "_law_take" "_law_take" st_4 f fd)(hm:mg "_law_take"=some (.ref f))(hb:Binds K fd ["_law_box_here","_law_wide"] []) :FD P wd K mg base (1) "_law_take" (some 0) 2 F_4 :=
 fd_of (k:=0) Fn sc_4 hm hb fun cdv A outer s H E M B=>bx_cons (sx_if (tx_c zCE (ex_ix M (jZ 0) jJ) jJ) (bx_cons (sx_set 2 (zAk (ex_ix M (jZ 0) jJ) (jZ 1)) (hN:=fun _=>sc_4.nd))
 (bx_cons (sx_setIx 0 (zEn (ex_ix M (jZ 0) jJ) (jZ 1)) (pv' 0) jJ)
 (bx_one (sx_ret (jZ 2))))) bx_nil)
 (bx_cons (sx_set 3 (zAk (zAt (ex_ix M (jZ 0) jJ) jJ) jJ) (hN:=fun _=>sc_4.nd))
 (bx_cons (sx_setIx 0 (ex_add M (zAk (ex_add M (zAt (jZ 3) jJ) jJ) jJ) jJ) (pv' 0) jJ)
 (bx_one (sx_ret (zAk (zEn (ex_add M (zAt (jZ 3) jJ) (ex_ix M (jZ 0) jJ)) jJ) (jZ 1))))))
def zCC:DT:=dTest (dOp gtS (dCB lenS (jW (jV 2) qQ)) (dC (.int 0)))
def zED:DS:=dSet 3 (dOp addS (jV 3) (dTup (jW (dMut 2 hPopAt (jW (dCall (some 0) F_4 [] (jW (jV 0) (jW (dCB lenS (jW (jV 2) qQ)) qQ))) qQ)) qQ)))
abbrev st_5:Stmt:=top 22
theorem sc_5:FnScope ["_law_box_here","_law_cups","_law_left","_law_found"] ["_law_box_here","_law_cups"] (defScope st_5):=by walk_at "s"
def d_5:DS:=dSeq (dSet 2 (dListRng (jW (jV 1) qQ)))
 (dSeq (dSet 3 (dTup qQ))
 (dSeq (dWhile (zCC) (zED) fuelW)
 (dRet (jV 3))))
def F_5:DF:=fnD (some 0) 2 4 d_5
theorem ok_5{f:Addr}{fd:FuncData}(Fn:Fun K "_law_turning" "_law_turning" st_5 f fd)(hm:mg "_law_turning"=some (.ref f))(hb:Binds K fd ["_law_box_here","_law_cups"] [])(z_len:mg "len"=none)(z_list:mg "list"=none)(z_range:mg "range"=none)(D_4:FD P wd K mg base (1) "_law_take" (some 0) 2 F_4):FD P wd K mg base (2) "_law_turning" (some 0) 2 F_5 :=
 fd_of (k:=1) Fn sc_5 hm hb fun cdv A outer s H E M B=>bx_cons (sx_set 2 (zFk M z_list z_range (jQ (jZ 1) jY)) (hN:=fun _=>sc_5.nd))
 (bx_cons (sx_set 3 (ex_tup jY) (hN:=fun _=>sc_5.nd))
 (bx_cons (zGw fuelW (fun _=>PassesOwn.never) (tx_c zCE (ex_cb M (br_len M) z_len PySem.boot_len (jQ (jZ 2) jY)) jJ) (bx_one (sx_set 3 (ex_add M (jZ 3) (ex_tup (jQ (ex_mut M PySem.F.slot_list_pop PySem.F.type_list_pop (fun _=>zHL) zGR (pv' 2) (jQ (ex_call M B D_4 (jQ (jZ 0) (jQ (ex_cb M (br_len M) z_len PySem.boot_len (jQ (jZ 2) jY)) jY))) jY)) jY))) (hN:=fun _=>sc_5.nd))))
 (bx_one (sx_ret (jZ 3)))))
abbrev st_6:Stmt:=top 24
theorem sc_6:FnScope ["_law_box_here","_law_cups","_law_questions","_law_form","_law_q","_law_yes","_law_no"] ["_law_box_here","_law_cups","_law_questions"] (defScope st_6):=by walk_at "s"
def d_6:DS:=dSeq (dSet 3 (dCall (some 0) F_4 [] (jW (jV 0) (jW (dC (.int 8)) qQ))))
 (dSeq (dPar3 4 5 6 (jW (dCall (some 0) F_4 [] (jW (jV 0) (jW (jV 2) qQ))) (jW (dCall (some 0) F_5 [] (jW (jV 0) (jW (jV 1) qQ))) (jW (dCall (some 0) F_5 [] (jW (jV 0) (jW (jV 1) qQ))) qQ))))
 (dSeq (dIf (dTest (dOp ltS (jV 3) (dC (.int 2)))) (dSet 6 (jV 5)) dNext)
 (dSeq (dIf (dTest (dOp eqS (jV 3) (dC (.int 2)))) (dSet 6 (dTupRng (jW (jV 1) qQ))) dNext)
 (dSeq (dIf (dTest (dOp eqS (jV 3) (dC (.int 3)))) (dSet 5 (dTupRng (jW (jV 1) qQ))) dNext)
 (dRet (dTup (jW (jV 4) (jW (jV 5) (jW (jV 6) qQ)))))))))
def F_6:DF:=fnD (some 0) 3 7 d_6
theorem ok_6{f:Addr}{fd:FuncData}(Fn:Fun K "_law_step" "_law_step" st_6 f fd)(hm:mg "_law_step"=some (.ref f))(hb:Binds K fd ["_law_box_here","_law_cups","_law_questions"] [])(z_range:mg "range"=none)(z_tuple:mg "tuple"=none)(D_4:FD P wd K mg base (1) "_law_take" (some 0) 2 F_4)(D_5:FD P wd K mg base (2) "_law_turning" (some 0) 2 F_5):FD P wd K mg base (3) "_law_step" (some 0) 3 F_6 :=
 fd_of (k:=2) Fn sc_6 hm hb fun cdv A outer s H E M B=>bx_cons (sx_set 3 (ex_call M B D_4 (jQ (jZ 0) (jQ jJ jY))) (hN:=fun _=>sc_6.nd))
 (bx_cons (zIa 4 5 6 M (jQ (ex_call M B D_4 (jQ (jZ 0) (jQ (jZ 2) jY))) (jQ (ex_call M B D_5 (jQ (jZ 0) (jQ (jZ 1) jY))) (jQ (ex_call M B D_5 (jQ (jZ 0) (jQ (jZ 1) jY))) jY))) (hN:=fun _=>sc_6.nd))
 (bx_cons (sx_if (tx_c cr_lt (jZ 3) jJ) (bx_one (sx_set 6 (jZ 5) (hN:=fun _=>sc_6.nd))) bx_nil)
 (bx_cons (sx_if (tx_c (cr_eq M) (jZ 3) jJ) (bx_one (sx_set 6 (zCs M z_tuple z_range (jQ (jZ 1) jY)) (hN:=fun _=>sc_6.nd))) bx_nil)
 (bx_cons (sx_if (tx_c (cr_eq M) (jZ 3) jJ) (bx_one (sx_set 5 (zCs M z_tuple z_range (jQ (jZ 1) jY)) (hN:=fun _=>sc_6.nd))) bx_nil)
 (bx_one (sx_ret (ex_tup (jQ (jZ 4) (jQ (jZ 5) (jQ (jZ 6) jY))))))))))
def zDZ:DE:=dIndex (jV 1) (jW (jV 0) qQ)
abbrev st_7:Stmt:=top 23
theorem sc_7:FnScope ["_law_turning_here"] ["_law_turning_here"] (defScope st_7):=by walk_at "s"
def d_7:DS:=dRet (dCB tupleS (jW (dComp none [none,some 0] (dRng1 (jW (dCB lenS (jW (jV 0) qQ)) qQ)) (gdName 0) dYes (zDZ)) qQ))
def F_7:DF:=fnD none 1 1 d_7
theorem ok_7{f:Addr}{fd:FuncData}(Fn:Fun K "_law_back" "_law_back" st_7 f fd)(hm:mg "_law_back"=some (.ref f))(hb:Binds K fd ["_law_turning_here"] [])(z_len:mg "len"=none)(z_range:mg "range"=none)(z_tuple:mg "tuple"=none):FD P wd K mg base (1) "_law_back" none 1 F_7 :=
 fd_of (k:=0) Fn sc_7 hm hb fun cdv A outer s H E M B=>bx_one (sx_ret (ex_ct M (tr_tuple M) z_tuple boot_tuple (jQ (ex_comp none (N':=["_law_place","_law_turning_here"]) (ix:=[none,some 0]) M (fun _=>⟨rfl,by kernel_rfl⟩) (ix_rng1 M z_range (jQ (ex_cb M (br_len M) z_len PySem.boot_len (jQ (jZ 0) jY)) jY)) (gx_name 0 (hN:=fun _=>(by show (["_law_place","_law_turning_here"]:List Str).Nodup; decide +kernel))) qx_nil (zHI M.comp (jZ 1) (jQ (jZ 0) jY)) (hix:=hix0)) jY)))
def zAl:DS:=dSeq (dSet 6 (dCall (some 0) F_6 [] (jW (jV 0) (jW (jV 1) (jW (jV 2) qQ)))))
 (dSeq (dSet 7 (dCall (some 0) F_4 [] (jW (jV 0) (jW (dC (.int 6)) qQ))))
 (dSeq (dIf (dAnd (dTest (dOp ltS (jV 7) (dC (.int 2)))) (dTest (dOp gtS (dCB lenS (jW (jV 4) qQ)) (dC (.int 0))))) (dSet 6 (dOp addS (dTup (jW (dOp ixS (dOp ixS (jV 4) (dUn negS (dC (.int 1)))) (dC (.int 0))) qQ)) (dSl (jV 6) (dPart (dC (.int 1))) dNoPart))) dNext)
 (dSeq (dIf (dAnd (dTest (dOp eqS (jV 7) (dC (.int 2)))) (dTest (dOp gtS (dCB lenS (jW (jV 4) qQ)) (dC (.int 0))))) (dSeq (dUnp (gdTup 3 (gdCons (gdName 8) (gdCons (gdName 9) (gdCons (gdName 10) gdNil)))) (dOp ixS (jV 4) (dUn negS (dC (.int 1)))))
 (dSet 6 (dTup (jW (jV 8) (jW (dCall none F_7 [] (jW (jV 9) qQ)) (jW (dCall none F_7 [] (jW (jV 10) qQ)) qQ)))))) dNext)
 (dDrop (dMut 4 hAppend (jW (jV 6) qQ))))))
abbrev st_8:Stmt:=top 25
theorem sc_8:FnScope ["_law_box_here","_law_cups","_law_questions","_law_most","_law_steps","_law_k","_law_step_here","_law_form","_law_q","_law_yes","_law_no"] ["_law_box_here","_law_cups","_law_questions","_law_most"] (defScope st_8):=by walk_at "s"
def d_8:DS:=dSeq (dSet 4 (dLst qQ))
 (dSeq (dFor (some 0) (dRng1 (jW (dCall (some 0) F_4 [] (jW (jV 0) (jW (dOp addS (jV 3) (dC (.int 1))) qQ))) qQ)) (gdName 5) (zAl))
 (dRet (dTup (jW (jV 1) (jW (jV 2) (jW (dCB tupleS (jW (jV 4) qQ)) qQ))))))
def F_8:DF:=fnD (some 0) 4 11 d_8
theorem ok_8{f:Addr}{fd:FuncData}(Fn:Fun K "_law_dance" "_law_dance" st_8 f fd)(hm:mg "_law_dance"=some (.ref f))(hb:Binds K fd ["_law_box_here","_law_cups","_law_questions","_law_most"] [])(z_len:mg "len"=none)(z_range:mg "range"=none)(z_tuple:mg "tuple"=none)(D_4:FD P wd K mg base (1) "_law_take" (some 0) 2 F_4)(D_6:FD P wd K mg base (3) "_law_step" (some 0) 3 F_6)(D_7:FD P wd K mg base (1) "_law_back" none 1 F_7):FD P wd K mg base (4) "_law_dance" (some 0) 4 F_8 :=
 fd_of (k:=3) Fn sc_8 hm hb fun cdv A outer s H E M B=>bx_cons (sx_set 4 (ex_lst jY) (hN:=fun _=>sc_8.nd))
 (bx_cons (sx_for M (fun _=>PassesOwn.never) (ix_rng1 M z_range (jQ (ex_call M B D_4 (jQ (jZ 0) (jQ (ex_add M (jZ 3) jJ) jY))) jY)) (gx_name 5 (hN:=fun _=>sc_8.nd)) (bx_cons (sx_set 6 (ex_call M B D_6 (jQ (jZ 0) (jQ (jZ 1) (jQ (jZ 2) jY)))) (hN:=fun _=>sc_8.nd))
 (bx_cons (sx_set 7 (ex_call M B D_4 (jQ (jZ 0) (jQ jJ jY))) (hN:=fun _=>sc_8.nd))
 (bx_cons (sx_if (tx_w (zGo (tx_c cr_lt (jZ 7) jJ) (zEd (tx_c zCE (ex_cb M (br_len M) z_len PySem.boot_len (jQ (jZ 4) jY)) jJ)))) (bx_one (sx_set 6 (ex_add M (ex_tup (jQ (ex_ix M (ex_ix M (jZ 4) (zGp jJ)) jJ) jY)) (ex_sl M (jZ 6) (ox_some jJ) ox_none)) (hN:=fun _=>sc_8.nd))) bx_nil)
 (bx_cons (sx_if (tx_w (zGo (tx_c (cr_eq M) (jZ 7) jJ) (zEd (tx_c zCE (ex_cb M (br_len M) z_len PySem.boot_len (jQ (jZ 4) jY)) jJ)))) (bx_cons (zJb (ex_ix M (jZ 4) (zGp jJ)) (gx_tup 3 M (gxs_cons (gx_name 8 (hN:=fun _=>sc_8.nd)) (gxs_cons (gx_name 9 (hN:=fun _=>sc_8.nd)) (gxs_cons (gx_name 10 (hN:=fun _=>sc_8.nd)) gxs_nil)))))
 (bx_one (sx_set 6 (ex_tup (jQ (jZ 8) (jQ (ex_call M B D_7 (jQ (jZ 9) jY)) (jQ (ex_call M B D_7 (jQ (jZ 10) jY)) jY)))) (hN:=fun _=>sc_8.nd)))) bx_nil)
 (bx_one (sx_expr (ex_mut M PySem.F.slot_list_append PySem.F.type_list_append (fun _=>mt_append) mut_append (pv' 4) (jQ (jZ 6) jY)))))))))
 (bx_one (sx_ret (ex_tup (jQ (jZ 1) (jQ (jZ 2) (jQ (ex_ct M (tr_tuple M) z_tuple boot_tuple (jQ (jZ 4) jY)) jY)))))))
abbrev st_9:Stmt:=top 35
theorem sc_9:FnScope ["_law_box_here","_law_some"] ["_law_box_here"] (defScope st_9):=by walk_at "s"
def d_9:DS:=dSeq (dSet 1 (dLst (jW (dC (.str "0")) (jW (dC (.str "1")) (jW (dC (.str "9")) (jW (dC (.str "10")) (jW (dC (.str "00")) (jW (dC (.str "01")) (jW (dC (.str "11")) (jW (dC (.str "3")) (jW (dC (.str "4")) (jW (dC (.str "5")) (jW (dC (.str "2")) (jW (dC (.str "6")) (jW (dC (.str "012")) (jW (dC (.str "120")) (jW (dC (.str "0123")) (jW (dC (.str "3210")) (jW (dC (.str "01234")) qQ)))))))))))))))))))
 (dSeq (dSet 1 (dOp addS (jV 1) (dLst (jW (dC (.str "11234")) (jW (dC (.str "112")) (jW (dC (.str "013")) (jW (dC (.str "0124")) (jW (dC (.str "cups")) (jW (dC (.str "questions")) (jW (dC (.str "Cups")) (jW (dC (.str "")) (jW (dC (.str "-1")) (jW (dC (.str "x")) (jW (dC (.str "12")) (jW (dC (.str "43210")) qQ)))))))))))))))
 (dSeq (dSet 1 (dOp addS (jV 1) (dLst (jW (dC (.str "012345")) (jW (dC (.str "021 ")) qQ)))))
 (dRet (dOp ixS (jV 1) (dCall (some 0) F_4 [] (jW (jV 0) (jW (dCB lenS (jW (jV 1) qQ)) qQ)))))))
def F_9:DF:=fnD (some 0) 1 2 d_9
theorem ok_9{f:Addr}{fd:FuncData}(Fn:Fun K "_law_word" "_law_word" st_9 f fd)(hm:mg "_law_word"=some (.ref f))(hb:Binds K fd ["_law_box_here"] [])(z_len:mg "len"=none)(D_4:FD P wd K mg base (1) "_law_take" (some 0) 2 F_4):FD P wd K mg base (2) "_law_word" (some 0) 1 F_9 :=
 fd_of (k:=1) Fn sc_9 hm hb fun cdv A outer s H E M B=>bx_cons (sx_set 1 (ex_lst (jQ ex_str (jQ ex_str (jQ ex_str (jQ ex_str (jQ ex_str (jQ ex_str (jQ ex_str (jQ ex_str (jQ ex_str (jQ ex_str (jQ ex_str (jQ ex_str (jQ ex_str (jQ ex_str (jQ ex_str (jQ ex_str (jQ ex_str jY)))))))))))))))))) (hN:=fun _=>sc_9.nd))
 (bx_cons (sx_set 1 (ex_add M (jZ 1) (ex_lst (jQ ex_str (jQ ex_str (jQ ex_str (jQ ex_str (jQ ex_str (jQ ex_str (jQ ex_str (jQ ex_str (jQ ex_str (jQ ex_str (jQ ex_str (jQ ex_str jY)))))))))))))) (hN:=fun _=>sc_9.nd))
 (bx_cons (sx_set 1 (ex_add M (jZ 1) (ex_lst (jQ ex_str (jQ ex_str jY)))) (hN:=fun _=>sc_9.nd))
 (bx_one (sx_ret (ex_ix M (jZ 1) (ex_call M B D_4 (jQ (jZ 0) (jQ (ex_cb M (br_len M) z_len PySem.boot_len (jQ (jZ 1) jY)) jY))))))))
abbrev zFB:Stmt:=top 36
theorem zFM:FnScope ["_law_box_here","_law_row","_law_words","_law_spot","_law_form"] ["_law_box_here","_law_row"] (defScope zFB):=by walk_at "s"
def d_10:DS:=dSeq (dSet 2 (dSM splitS (jV 1) (jW (dC (.str " ")) qQ)))
 (dSeq (dPar2 3 4 (jW (dCall (some 0) F_4 [] (jW (jV 0) (jW (dCB lenS (jW (jV 2) qQ)) qQ))) (jW (dCall (some 0) F_4 [] (jW (jV 0) (jW (dC (.int 4)) qQ))) qQ)))
 (dSeq (dIf (dTest (dOp eqS (jV 4) (dC (.int 0)))) (dRet (dSM joinS (dC (.str " ")) (jW (dOp addS (dSl (jV 2) dNoPart (dPart (jV 3))) (dSl (jV 2) (dPart (dOp addS (jV 3) (dC (.int 1)))) dNoPart)) qQ))) dNext)
 (dSeq (dIf (dTest (dOp eqS (jV 4) (dC (.int 1)))) (dRet (dSM joinS (dC (.str " ")) (jW (dOp addS (dSl (jV 2) dNoPart (dPart (dOp addS (jV 3) (dC (.int 1))))) (dSl (jV 2) (dPart (jV 3)) dNoPart)) qQ))) dNext)
 (dRet (dSM joinS (dC (.str " ")) (jW (dOp addS (dOp addS (dSl (jV 2) dNoPart (dPart (jV 3))) (dLst (jW (dCall (some 0) F_9 [] (jW (jV 0) qQ)) qQ))) (dSl (jV 2) (dPart (dOp addS (jV 3) (dC (.int 1)))) dNoPart)) qQ))))))
def F_10:DF:=fnD (some 0) 2 5 d_10
theorem zKK{f:Addr}{fd:FuncData}(Fn:Fun K "_law_row_otherwise" "_law_row_otherwise" zFB f fd)(hm:mg "_law_row_otherwise"=some (.ref f))(hb:Binds K fd ["_law_box_here","_law_row"] [])(z_len:mg "len"=none)(D_4:FD P wd K mg base (1) "_law_take" (some 0) 2 F_4)(D_9:FD P wd K mg base (2) "_law_word" (some 0) 1 F_9):FD P wd K mg base (3) "_law_row_otherwise" (some 0) 2 F_10 :=
 fd_of (k:=2) Fn zFM hm hb fun cdv A outer s H E M B=>bx_cons (sx_set 2 (ex_sm M PySem.F.slot_str_split PySem.F.type_str_split (fun _=>mt_split) sims_split (jZ 1) (jQ ex_str jY)) (hN:=fun _=>zFM.nd))
 (bx_cons (sx_par 3 4 M (jQ (ex_call M B D_4 (jQ (jZ 0) (jQ (ex_cb M (br_len M) z_len PySem.boot_len (jQ (jZ 2) jY)) jY))) (jQ (ex_call M B D_4 (jQ (jZ 0) (jQ jJ jY))) jY)) (hN:=fun _=>zFM.nd))
 (bx_cons (sx_if (tx_c (cr_eq M) (jZ 4) jJ) (bx_one (sx_ret (ex_sm M PySem.F.slot_str_join PySem.F.type_str_join (fun _=>mt_join) sims_join ex_str (jQ (ex_add M (ex_sl M (jZ 2) ox_none (ox_some (jZ 3))) (ex_sl M (jZ 2) (ox_some (ex_add M (jZ 3) jJ)) ox_none)) jY)))) bx_nil)
 (bx_cons (sx_if (tx_c (cr_eq M) (jZ 4) jJ) (bx_one (sx_ret (ex_sm M PySem.F.slot_str_join PySem.F.type_str_join (fun _=>mt_join) sims_join ex_str (jQ (ex_add M (ex_sl M (jZ 2) ox_none (ox_some (ex_add M (jZ 3) jJ))) (ex_sl M (jZ 2) (ox_some (jZ 3)) ox_none)) jY)))) bx_nil)
 (bx_one (sx_ret (ex_sm M PySem.F.slot_str_join PySem.F.type_str_join (fun _=>mt_join) sims_join ex_str (jQ (ex_add M (ex_add M (ex_sl M (jZ 2) ox_none (ox_some (jZ 3))) (ex_lst (jQ (ex_call M B D_9 (jQ (jZ 0) jY)) jY))) (ex_sl M (jZ 2) (ox_some (ex_add M (jZ 3) jJ)) ox_none)) jY)))))))
abbrev st_11:Stmt:=top 28
theorem sc_11:FnScope ["_law_signs_here"] [] (defScope st_11):=by walk_at "s"
def d_11:DS:=dSeq (dSet 0 (dC (.str " !#$&'()*+,-./0123456789:;<=>?@ABCDEFGHIJKLMNOPQRSTUVWXYZ[]^_`abcdefghijklmnopqrstuvwxyz{|}~")))
 (dRet (dOp addS (dOp addS (dOp addS (jV 0) (dC (.str "\""))) (dC (.str "\\"))) (dC (.str "\n"))))
def F_11:DF:=fnD none 0 1 d_11
theorem ok_11{f:Addr}{fd:FuncData}(Fn:Fun K "_law_signs" "_law_signs" st_11 f fd)(hm:mg "_law_signs"=some (.ref f))(hb:Binds K fd [] []) :FD P wd K mg base (1) "_law_signs" none 0 F_11 :=
 fd_of (k:=0) Fn sc_11 hm hb fun cdv A outer s H E M B=>bx_cons (sx_set 0 ex_str (hN:=fun _=>sc_11.nd))
 (bx_one (sx_ret (ex_add M (ex_add M (ex_add M (jZ 0) ex_str) ex_str) ex_str)))
abbrev st_12:Stmt:=top 29
theorem sc_12:FnScope ["_law_box_here","_law_signs_here"] ["_law_box_here"] (defScope st_12):=by walk_at "s"
def d_12:DS:=dSeq (dSet 1 (dCall none F_11 [] qQ))
 (dRet (dOp ixS (jV 1) (dCall (some 0) F_4 [] (jW (jV 0) (jW (dCB lenS (jW (jV 1) qQ)) qQ)))))
def F_12:DF:=fnD (some 0) 1 2 d_12
theorem ok_12{f:Addr}{fd:FuncData}(Fn:Fun K "_law_sign" "_law_sign" st_12 f fd)(hm:mg "_law_sign"=some (.ref f))(hb:Binds K fd ["_law_box_here"] [])(z_len:mg "len"=none)(D_4:FD P wd K mg base (1) "_law_take" (some 0) 2 F_4)(D_11:FD P wd K mg base (1) "_law_signs" none 0 F_11):FD P wd K mg base (2) "_law_sign" (some 0) 1 F_12 :=
 fd_of (k:=1) Fn sc_12 hm hb fun cdv A outer s H E M B=>bx_cons (sx_set 1 (ex_call0 M B D_11) (hN:=fun _=>sc_12.nd))
 (bx_one (sx_ret (ex_ix M (jZ 1) (ex_call M B D_4 (jQ (jZ 0) (jQ (ex_cb M (br_len M) z_len PySem.boot_len (jQ (jZ 1) jY)) jY))))))
abbrev st_13:Stmt:=top 37
theorem sc_13:FnScope ["_law_box_here","_law_text","_law_rows","_law_at","_law_spot","_law_form","_law_other"] ["_law_box_here","_law_text"] (defScope st_13):=by walk_at "s"
def d_13:DS:=dSeq (dSet 2 (dSM splitS (jV 1) (jW (dC (.str "\n")) qQ)))
 (dSeq (dPar2 3 4 (jW (dCall (some 0) F_4 [] (jW (jV 0) (jW (dCB lenS (jW (jV 2) qQ)) qQ))) (jW (dCall (some 0) F_4 [] (jW (jV 0) (jW (dOp addS (dCB lenS (jW (jV 1) qQ)) (dC (.int 1))) qQ))) qQ)))
 (dSeq (dSet 5 (dCall (some 0) F_4 [] (jW (jV 0) (jW (dC (.int 9)) qQ))))
 (dSeq (dIf (dTest (dOp eqS (jV 5) (dC (.int 0)))) (dSet 2 (dOp addS (dSl (jV 2) dNoPart (dPart (jV 3))) (dSl (jV 2) (dPart (dOp addS (jV 3) (dC (.int 1)))) dNoPart))) (dIf (dTest (dOp eqS (jV 5) (dC (.int 1)))) (dSet 2 (dOp addS (dSl (jV 2) dNoPart (dPart (dOp addS (jV 3) (dC (.int 1))))) (dSl (jV 2) (dPart (jV 3)) dNoPart))) (dIf (dTest (dOp eqS (jV 5) (dC (.int 2)))) (dSet 2 (dOp addS (dOp addS (dSl (jV 2) dNoPart (dPart (jV 3))) (dLst (jW (dOp ixS (dLst (jW (dC (.str "")) (jW (dC (.str "cups 3 questions 2")) (jW (dC (.str "0 012 012")) (jW (dC (.str " ")) qQ))))) (dCall (some 0) F_4 [] (jW (jV 0) (jW (dC (.int 4)) qQ)))) qQ))) (dSl (jV 2) (dPart (jV 3)) dNoPart))) (dIf (dTest (dOp eqS (jV 5) (dC (.int 3)))) (dSeq (dSet 6 (dCall (some 0) F_4 [] (jW (jV 0) (jW (dCB lenS (jW (jV 2) qQ)) qQ))))
 (dSwap 2 (dTup (jW (dOp ixS (jV 2) (jV 6)) (jW (dOp ixS (jV 2) (jV 3)) qQ))) (jV 3) (jV 6))) (dIf (dTest (dOp ltS (jV 5) (dC (.int 6)))) (dSetIx 2 (dCall (some 0) F_10 [] (jW (jV 0) (jW (dOp ixS (jV 2) (jV 3)) qQ))) (jV 3)) (dIf (dTest (dOp eqS (jV 5) (dC (.int 6)))) (dDrop (dMut 2 hAppend (jW (dC (.str "")) qQ))) (dRet (dOp addS (dOp addS (dSlT (jV 1) dNoPart (dPart (jV 4))) (dCall (some 0) F_12 [] (jW (jV 0) qQ))) (dSlT (jV 1) (dPart (dOp subS (dOp addS (jV 4) (jV 5)) (dC (.int 7)))) dNoPart)))))))))
 (dRet (dSM joinS (dC (.str "\n")) (jW (jV 2) qQ))))))
def F_13:DF:=fnD (some 0) 2 7 d_13
theorem ok_13{f:Addr}{fd:FuncData}(Fn:Fun K "_law_otherwise" "_law_otherwise" st_13 f fd)(hm:mg "_law_otherwise"=some (.ref f))(hb:Binds K fd ["_law_box_here","_law_text"] [])(z_len:mg "len"=none)(D_4:FD P wd K mg base (1) "_law_take" (some 0) 2 F_4)(D_10:FD P wd K mg base (3) "_law_row_otherwise" (some 0) 2 F_10)(D_12:FD P wd K mg base (2) "_law_sign" (some 0) 1 F_12):FD P wd K mg base (4) "_law_otherwise" (some 0) 2 F_13 :=
 fd_of (k:=3) Fn sc_13 hm hb fun cdv A outer s H E M B=>bx_cons (sx_set 2 (ex_sm M PySem.F.slot_str_split PySem.F.type_str_split (fun _=>mt_split) sims_split (jZ 1) (jQ ex_str jY)) (hN:=fun _=>sc_13.nd))
 (bx_cons (sx_par 3 4 M (jQ (ex_call M B D_4 (jQ (jZ 0) (jQ (ex_cb M (br_len M) z_len PySem.boot_len (jQ (jZ 2) jY)) jY))) (jQ (ex_call M B D_4 (jQ (jZ 0) (jQ (ex_add M (ex_cb M (br_len M) z_len PySem.boot_len (jQ (jZ 1) jY)) jJ) jY))) jY)) (hN:=fun _=>sc_13.nd))
 (bx_cons (sx_set 5 (ex_call M B D_4 (jQ (jZ 0) (jQ jJ jY))) (hN:=fun _=>sc_13.nd))
 (bx_cons (sx_if (tx_c (cr_eq M) (jZ 5) jJ) (bx_one (sx_set 2 (ex_add M (ex_sl M (jZ 2) ox_none (ox_some (jZ 3))) (ex_sl M (jZ 2) (ox_some (ex_add M (jZ 3) jJ)) ox_none)) (hN:=fun _=>sc_13.nd))) (bx_one (sx_if (tx_c (cr_eq M) (jZ 5) jJ) (bx_one (sx_set 2 (ex_add M (ex_sl M (jZ 2) ox_none (ox_some (ex_add M (jZ 3) jJ))) (ex_sl M (jZ 2) (ox_some (jZ 3)) ox_none)) (hN:=fun _=>sc_13.nd))) (bx_one (sx_if (tx_c (cr_eq M) (jZ 5) jJ) (bx_one (sx_set 2 (ex_add M (ex_add M (ex_sl M (jZ 2) ox_none (ox_some (jZ 3))) (ex_lst (jQ (ex_ix M (ex_lst (jQ ex_str (jQ ex_str (jQ ex_str (jQ ex_str jY))))) (ex_call M B D_4 (jQ (jZ 0) (jQ jJ jY)))) jY))) (ex_sl M (jZ 2) (ox_some (jZ 3)) ox_none)) (hN:=fun _=>sc_13.nd))) (bx_one (sx_if (tx_c (cr_eq M) (jZ 5) jJ) (bx_cons (sx_set 6 (ex_call M B D_4 (jQ (jZ 0) (jQ (ex_cb M (br_len M) z_len PySem.boot_len (jQ (jZ 2) jY)) jY))) (hN:=fun _=>sc_13.nd))
 (bx_one (sx_swap 2 M (ex_tup (jQ (ex_ix M (jZ 2) (jZ 6)) (jQ (ex_ix M (jZ 2) (jZ 3)) jY))) (pv' 2) (pv' 2) (jZ 3) (jZ 6)))) (bx_one (sx_if (tx_c cr_lt (jZ 5) jJ) (bx_one (sx_setIx 2 (ex_call M B D_10 (jQ (jZ 0) (jQ (ex_ix M (jZ 2) (jZ 3)) jY))) (pv' 2) (jZ 3))) (bx_one (sx_if (tx_c (cr_eq M) (jZ 5) jJ) (bx_one (sx_expr (ex_mut M PySem.F.slot_list_append PySem.F.type_list_append (fun _=>mt_append) mut_append (pv' 2) (jQ ex_str jY)))) (bx_one (sx_ret (ex_add M (ex_add M (ex_slT (jZ 1) ox_none (ox_some (jZ 4))) (ex_call M B D_12 (jQ (jZ 0) jY))) (ex_slT (jZ 1) (ox_some (ex_sub (ex_add M (jZ 4) (jZ 5)) jJ)) ox_none)))))))))))))))
 (bx_one (sx_ret (ex_sm M PySem.F.slot_str_join PySem.F.type_str_join (fun _=>mt_join) sims_join ex_str (jQ (jZ 2) jY)))))))
def d_0_e1(rec:DF):DE:=dCall none rec [] (jW (jV 0) (jW (jV 1) qQ))
abbrev st_0:Stmt:=top 21
theorem sc_0:FnScope ["_law_found","_law_due_here"] ["_law_found","_law_due_here"] (defScope st_0):=by walk_at "s"
def d_0(rec:DF):DS:=dSeq (dIf (dTru (dCB isiS (jW (jV 1) (jW (dTup (jW (dC (.ty "list")) (jW (dC (.ty "tuple")) qQ))) qQ)))) (dSeq (dIf (dOr (dTest (dOp neS (dCB isiS (jW (jV 0) (jW (dC (.ty "tuple")) qQ))) (dCB isiS (jW (jV 1) (jW (dC (.ty "tuple")) qQ))))) (dTest (dOp neS (dCB isiS (jW (jV 0) (jW (dC (.ty "list")) qQ))) (dCB isiS (jW (jV 1) (jW (dC (.ty "list")) qQ)))))) (dRet (dC (.bl false))) dNext)
 (dRet (dAndV (dOp eqS (dCB lenS (jW (jV 0) qQ)) (dCB lenS (jW (jV 1) qQ))) (dCB allS (jW (dComp none [none,none] (dZip (jW (jV 0) (jW (jV 1) qQ))) (gdTup 2 (gdCons (gdName 0) (gdCons (gdName 1) gdNil))) dYes ((d_0_e1 rec))) qQ))))) dNext)
 (dRet (dAndV (dOp eqS (dCB isiS (jW (jV 0) (jW (dC (.ty "bool")) qQ))) (dCB isiS (jW (jV 1) (jW (dC (.ty "bool")) qQ)))) (dOp eqS (jV 0) (jV 1))))
def F_0:Nat->DF
 | 0=>fun _=>none
 | n+1=>fnD none 2 2 (d_0 (F_0 n))
theorem ok_0{f:Addr}{fd:FuncData}(Fn:Fun K "_law_alike" "_law_alike" st_0 f fd)(hm:mg "_law_alike"=some (.ref f))(hb:Binds K fd ["_law_found","_law_due_here"] [])(z_all:mg "all"=none)(z_bool:mg "bool"=none)(z_isinstance:mg "isinstance"=none)(z_len:mg "len"=none)(z_list:mg "list"=none)(z_tuple:mg "tuple"=none)(z_zip:mg "zip"=none)(n:Nat):FD P wd K mg base (0+n) "_law_alike" none 2 (F_0 n):=by
 induction n with
 | zero=>exact fd_zero Fn hm hb rfl
 | succ n ih =>
  have Drec:=ih
  exact fd_of (k:=0+n) Fn sc_0 hm hb fun cdv A outer s H E M B=>bx_cons (sx_if (tx_v M (ex_cb M (br_isi M) z_isinstance boot_isinstance (jQ (jZ 1) (jQ (ex_tup (jQ (ex_ty M z_list boot_list) (jQ (ex_ty M z_tuple boot_tuple) jY))) jY)))) (bx_cons (sx_if (tx_w (wx_or (tx_c (cr_ne M) (ex_cb M (br_isi M) z_isinstance boot_isinstance (jQ (jZ 0) (jQ (ex_ty M z_tuple boot_tuple) jY))) (ex_cb M (br_isi M) z_isinstance boot_isinstance (jQ (jZ 1) (jQ (ex_ty M z_tuple boot_tuple) jY)))) (wx_or1 (tx_c (cr_ne M) (ex_cb M (br_isi M) z_isinstance boot_isinstance (jQ (jZ 0) (jQ (ex_ty M z_list boot_list) jY))) (ex_cb M (br_isi M) z_isinstance boot_isinstance (jQ (jZ 1) (jQ (ex_ty M z_list boot_list) jY))))))) (bx_one (sx_ret ex_bl)) bx_nil)   (bx_one (sx_ret (ex_and (ex_c (cr_eq M) (ex_cb M (br_len M) z_len PySem.boot_len (jQ (jZ 0) jY)) (ex_cb M (br_len M) z_len PySem.boot_len (jQ (jZ 1) jY))) (ex_one (ex_cb M (br_all M) z_all boot_all (jQ (ex_comp none (N':=["_law_one","_law_other"]) (ix:=[none,none]) M (fun _=>⟨rfl,by kernel_rfl⟩) (ix_zip M z_zip (jQ (jZ 0) (jQ (jZ 1) jY))) (gx_tup 2 M.comp (gxs_cons (gx_name 0 (hN:=fun _=>(by show (["_law_one","_law_other"]:List Str).Nodup; decide +kernel))) (gxs_cons (gx_name 1 (hN:=fun _=>(by show (["_law_one","_law_other"]:List Str).Nodup; decide +kernel))) gxs_nil))) qx_nil (ex_call M.comp B.comp Drec (jQ (jZ 0) (jQ (jZ 1) jY))) (hix:=hix0)) jY))))))) bx_nil)   (bx_one (sx_ret (ex_and (ex_c (cr_eq M) (ex_cb M (br_isi M) z_isinstance boot_isinstance (jQ (jZ 0) (jQ (ex_ty M z_bool boot_bool) jY))) (ex_cb M (br_isi M) z_isinstance boot_isinstance (jQ (jZ 1) (jQ (ex_ty M z_bool boot_bool) jY)))) (ex_one (ex_c (cr_eq M) (jZ 0) (jZ 1))))))
def d_14_e1:DE:=dCB strS (jW (jV 0) qQ)
abbrev st_14:Stmt:=top 11
theorem sc_14:FnScope ["word","least","beyond","row"] ["word","least","beyond","row"] (defScope st_14):=by walk_at "s"
def d_14:DS:=dSeq (dIf (dTest (dOp (inS true) (jV 0) (dComp none [none] (dRng2 (jW (jV 1) (jW (jV 2) qQ))) (gdName 0) dYes (d_14_e1)))) (dRaiseX "BadText" ["row"] (jW (jV 3) qQ)) dNext)
 (dN (dRet (dCB intTS (jW (jV 0) qQ))))
def F_14:DF:=fnD none 4 4 d_14
theorem ok_14{f:Addr}{fd:FuncData}(Fn:Fun K "read_number" "read_number" st_14 f fd)(hm:mg "read_number"=some (.ref f))(hb:Binds K fd ["word","least","beyond","row"] [])(z_int:mg "int"=none)(z_range:mg "range"=none)(z_str:mg "str"=none)(x_BadText:XC P wd K mg base 1 "BadText" ["row"]):FX P wd K mg base (3) "read_number" 4 F_14 :=
 fx_of (k:=2) Fn sc_14 hm hb fun cdv A outer s H E M B=>bxx_cons (sxx_if (tx_c (cr_notIn M) (jZ 0) (ex_comp none (N':=["number"]) (ix:=[none]) M (fun _=>⟨rfl,by kernel_rfl⟩) (ix_rng2 M z_range (jQ (jZ 1) (jQ (jZ 2) jY))) (gx_name 0 (hN:=fun _=>(by show (["number"]:List Str).Nodup; decide +kernel))) qx_nil (ex_ct M.comp (tr_str) z_str boot_str (jQ (jZ 0) jY)) (hix:=hix0))) (bxx_one (sxx_raise M x_BadText (jQ (jZ 3) jY))) (bxx_nil))
 (bxx_one (sxx_plain (sx_ret (ex_ct M (tr_intT) z_int (by decide +kernel) (jQ (jZ 0) jY)))))
abbrev st_15:Stmt:=top 15
theorem sc_15:FnScope ["text","words"] ["text"] (defScope st_15):=by walk_at "s"
def d_15:DS:=dSeq (dN (dSet 1 (dSM splitS (jV 0) (jW (dC (.str " ")) qQ))))
 (dSeq (dIf (dOr (dTest (dOp neS (dCB lenS (jW (jV 1) qQ)) (dC (.int 4)))) (dOr (dTest (dOp neS (dOp ixS (jV 1) (dC (.int 0))) (dC (.str "cups")))) (dTest (dOp neS (dOp ixS (jV 1) (dC (.int 2))) (dC (.str "questions")))))) (dRaiseX "BadText" ["row"] (jW (dC (.int 0)) qQ)) dNext)
 (dRetX (dTupX (dConsX (dCallX 4 F_14 (jW (dOp ixS (jV 1) (dC (.int 1))) (jW (dC (.int 3)) (jW (dC (.int 6)) (jW (dC (.int 0)) qQ))))) (dConsX (dCallX 4 F_14 (jW (dOp ixS (jV 1) (dC (.int 3))) (jW (dC (.int 1)) (jW (dC (.int 11)) (jW (dC (.int 0)) qQ))))) (dNilX))))))
def F_15:DF:=fnD none 1 2 d_15
theorem ok_15{f:Addr}{fd:FuncData}(Fn:Fun K "read_head" "read_head" st_15 f fd)(hm:mg "read_head"=some (.ref f))(hb:Binds K fd ["text"] [])(z_len:mg "len"=none)(x_BadText:XC P wd K mg base 1 "BadText" ["row"])(X_p_read_number:FX P wd K mg base (3) "read_number" 4 F_14):FX P wd K mg base (4) "read_head" 1 F_15 :=
 fx_of (k:=3) Fn sc_15 hm hb fun cdv A outer s H E M B=>bxx_cons (sxx_plain (sx_set 1 (ex_sm M PySem.F.slot_str_split PySem.F.type_str_split (fun _=>mt_split) sims_split (jZ 0) (jQ ex_str jY)) (hN:=fun _=>sc_15.nd)))
 (bxx_cons (sxx_if (tx_w (wx_or (tx_c (cr_ne M) (ex_cb M (br_len M) z_len PySem.boot_len (jQ (jZ 1) jY)) jJ) (wx_or (tx_c (cr_ne M) (ex_ix M (jZ 1) jJ) ex_str) (wx_or1 (tx_c (cr_ne M) (ex_ix M (jZ 1) jJ) ex_str))))) (bxx_one (sxx_raise M x_BadText (jQ jJ jY))) (bxx_nil))
 (bxx_one (sxx_ret (exx_tup (axx_cons (exx_call M X_p_read_number (jQ (ex_ix (M.on) (jZ 1) jJ) (jQ jJ (jQ jJ (jQ jJ jY))))) (axx_cons (exx_call M X_p_read_number (jQ (ex_ix (M.on) (jZ 1) jJ) (jQ jJ (jQ jJ (jQ jJ jY))))) (axx_nil)))))))
def d_16_e1:DE:=dCB intTS (jW (jV 0) qQ)
abbrev st_16:Stmt:=top 12
theorem sc_16:FnScope ["word"] ["word"] (defScope st_16):=by walk_at "s"
def d_16:DS:=dRet (dCB tupleS (jW (dComp none [none] (dStrI (jV 0)) (gdName 0) dYes (d_16_e1)) qQ))
def F_16:DF:=fnD none 1 1 d_16
theorem ok_16{f:Addr}{fd:FuncData}(Fn:Fun K "from_a_row" "from_a_row" st_16 f fd)(hm:mg "from_a_row"=some (.ref f))(hb:Binds K fd ["word"] [])(z_int:mg "int"=none)(z_tuple:mg "tuple"=none):FD P wd K mg base (1) "from_a_row" none 1 F_16 :=
 fd_of (k:=0) Fn sc_16 hm hb fun cdv A outer s H E M B=>bx_one (sx_ret (ex_ct M (tr_tuple M) z_tuple boot_tuple (jQ (ex_comp none (N':=["figure"]) (ix:=[none]) M (fun _=>⟨rfl,by kernel_rfl⟩) (ix_str' M (jZ 0)) (gx_name 0 (hN:=fun _=>(by show (["figure"]:List Str).Nodup; decide +kernel))) qx_nil (ex_ct M.comp (tr_intT) z_int (by decide +kernel) (jQ (jZ 0) jY)) (hix:=hix0)) jY)))
abbrev st_17:Stmt:=top 13
theorem sc_17:FnScope ["word","cups"] ["word","cups"] (defScope st_17):=by walk_at "s"
def d_17:DS:=dRet (dOp eqS (dCB sortXS (jW (jV 0) qQ)) (dCB listTS (jW (dSlT (dK c_FIGURES) dNoPart (dPart (jV 1))) qQ)))
def F_17:DF:=fnD none 2 2 d_17
theorem ok_17{f:Addr}{fd:FuncData}(Fn:Fun K "is_turning_in_a_row" "is_turning_in_a_row" st_17 f fd)(hm:mg "is_turning_in_a_row"=some (.ref f))(hb:Binds K fd ["word","cups"] [])(z_list:mg "list"=none)(z_sorted:mg "sorted"=none)(k_FIGURES:KV K mg "FIGURES" c_FIGURES):FD P wd K mg base (1) "is_turning_in_a_row" none 2 F_17 :=
 fd_of (k:=0) Fn sc_17 hm hb fun cdv A outer s H E M B=>bx_one (sx_ret (ex_c (cr_eq M) (ex_cb M (br_sortX M) z_sorted boot_sorted (jQ (jZ 0) jY)) (ex_ct M (tr_listT M) z_list boot_list (jQ (ex_slT (ex_k c_FIGURES M k_FIGURES) ox_none (ox_some (jZ 1))) jY))))
abbrev st_18:Stmt:=top 14
theorem sc_18:FnScope ["word","cups","row"] ["word","cups","row"] (defScope st_18):=by walk_at "s"
def d_18:DS:=dSeq (dIf (dNot (dTru (dCall none F_17 [] (jW (jV 0) (jW (jV 1) qQ))))) (dRaiseX "BadText" ["row"] (jW (jV 2) qQ)) dNext)
 (dN (dRet (dCall none F_16 [] (jW (jV 0) qQ))))
def F_18:DF:=fnD none 3 3 d_18
theorem ok_18{f:Addr}{fd:FuncData}(Fn:Fun K "read_turning" "read_turning" st_18 f fd)(hm:mg "read_turning"=some (.ref f))(hb:Binds K fd ["word","cups","row"] [])(D_16:FD P wd K mg base (1) "from_a_row" none 1 F_16)(D_17:FD P wd K mg base (1) "is_turning_in_a_row" none 2 F_17)(x_BadText:XC P wd K mg base 1 "BadText" ["row"]):FX P wd K mg base (3) "read_turning" 3 F_18 :=
 fx_of (k:=2) Fn sc_18 hm hb fun cdv A outer s H E M B=>bxx_cons (sxx_if (tx_not (tx_v M (ex_call M B D_17 (jQ (jZ 0) (jQ (jZ 1) jY))))) (bxx_one (sxx_raise M x_BadText (jQ (jZ 2) jY))) (bxx_nil))
 (bxx_one (sxx_plain (sx_ret (ex_call M B D_16 (jQ (jZ 0) jY)))))
abbrev st_19:Stmt:=top 16
theorem sc_19:FnScope ["text","head","row","words","q"] ["text","head","row"] (defScope st_19):=by walk_at "s"
def d_19:DS:=dSeq (dN (dSet 3 (dSM splitS (jV 0) (jW (dC (.str " ")) qQ))))
 (dSeq (dIf (dTest (dOp neS (dCB lenS (jW (jV 3) qQ)) (dC (.int 3)))) (dRaiseX "BadText" ["row"] (jW (jV 2) qQ)) dNext)
 (dSeq (dSetX 4 (dCallX 4 F_14 (jW (dOp ixS (jV 3) (dC (.int 0))) (jW (dC (.int 0)) (jW (dOp ixS (jV 1) (dC (.int 1))) (jW (jV 2) qQ))))))
 (dRetX (dTupX (dConsX (dPl (jV 4)) (dConsX (dCallX 3 F_18 (jW (dOp ixS (jV 3) (dC (.int 1))) (jW (dOp ixS (jV 1) (dC (.int 0))) (jW (jV 2) qQ)))) (dConsX (dCallX 3 F_18 (jW (dOp ixS (jV 3) (dC (.int 2))) (jW (dOp ixS (jV 1) (dC (.int 0))) (jW (jV 2) qQ)))) (dNilX))))))))
def F_19:DF:=fnD none 3 5 d_19
theorem ok_19{f:Addr}{fd:FuncData}(Fn:Fun K "read_step" "read_step" st_19 f fd)(hm:mg "read_step"=some (.ref f))(hb:Binds K fd ["text","head","row"] [])(z_len:mg "len"=none)(x_BadText:XC P wd K mg base 1 "BadText" ["row"])(X_p_read_number:FX P wd K mg base (3) "read_number" 4 F_14)(X_p_read_turning:FX P wd K mg base (3) "read_turning" 3 F_18):FX P wd K mg base (4) "read_step" 3 F_19 :=
 fx_of (k:=3) Fn sc_19 hm hb fun cdv A outer s H E M B=>bxx_cons (sxx_plain (sx_set 3 (ex_sm M PySem.F.slot_str_split PySem.F.type_str_split (fun _=>mt_split) sims_split (jZ 0) (jQ ex_str jY)) (hN:=fun _=>sc_19.nd)))
 (bxx_cons (sxx_if (tx_c (cr_ne M) (ex_cb M (br_len M) z_len PySem.boot_len (jQ (jZ 3) jY)) jJ) (bxx_one (sxx_raise M x_BadText (jQ (jZ 2) jY))) (bxx_nil))
 (bxx_cons (sxx_set 4 (exx_call M X_p_read_number (jQ (ex_ix (M.on) (jZ 3) jJ) (jQ jJ (jQ (ex_ix (M.on) (jZ 1) jJ) (jQ (jZ 2) jY))))) (hN:=fun _=>sc_19.nd))
 (bxx_one (sxx_ret (exx_tup (axx_cons (exx_plain (jZ 4)) (axx_cons (exx_call M X_p_read_turning (jQ (ex_ix (M.on) (jZ 3) jJ) (jQ (ex_ix (M.on) (jZ 1) jJ) (jQ (jZ 2) jY)))) (axx_cons (exx_call M X_p_read_turning (jQ (ex_ix (M.on) (jZ 3) jJ) (jQ (ex_ix (M.on) (jZ 1) jJ) (jQ (jZ 2) jY)))) (axx_nil)))))))))
def d_20_e1:DEX:=dCallX 3 F_19 (jW (dOp ixS (jV 2) (jV 0)) (jW (jV 1) (jW (jV 0) qQ)))
abbrev st_20:Stmt:=top 17
theorem sc_20:FnScope ["text","rows","head","steps"] ["text"] (defScope st_20):=by walk_at "s"
def d_20:DS:=dSeq (dN (dSet 1 (dSM splitS (jV 0) (jW (dC (.str "\n")) qQ))))
 (dSeq (dSetX 2 (dCallX 1 F_15 (jW (dOp ixS (jV 1) (dC (.int 0))) qQ)))
 (dSeq (dSetX 3 (dCompX [none,some 2,some 1] (dRng2 (jW (dC (.int 1)) (jW (dCB lenS (jW (jV 1) qQ)) qQ))) (gdName 0) dYes (d_20_e1)))
 (dN (dRet (dTup (jW (dOp ixS (jV 2) (dC (.int 0))) (jW (dOp ixS (jV 2) (dC (.int 1))) (jW (dCB tupleS (jW (jV 3) qQ)) qQ))))))))
def F_20:DF:=fnD none 1 4 d_20
theorem ok_20{f:Addr}{fd:FuncData}(Fn:Fun K "read_dance" "read_dance" st_20 f fd)(hm:mg "read_dance"=some (.ref f))(hb:Binds K fd ["text"] [])(z_len:mg "len"=none)(z_range:mg "range"=none)(z_tuple:mg "tuple"=none)(X_p_read_head:FX P wd K mg base (4) "read_head" 1 F_15)(X_p_read_step:FX P wd K mg base (4) "read_step" 3 F_19):FX P wd K mg base (5) "read_dance" 1 F_20 :=
 fx_of (k:=4) Fn sc_20 hm hb fun cdv A outer s H E M B=>bxx_cons (sxx_plain (sx_set 1 (ex_sm M PySem.F.slot_str_split PySem.F.type_str_split (fun _=>mt_split) sims_split (jZ 0) (jQ ex_str jY)) (hN:=fun _=>sc_20.nd)))
 (bxx_cons (sxx_set 2 (exx_call M X_p_read_head (jQ (ex_ix (M.on) (jZ 1) jJ) jY)) (hN:=fun _=>sc_20.nd))
 (bxx_cons (sxx_setC 3 (N':=["row","head","rows"]) (ix:=[none,some 2,some 1]) M (fun _=>⟨rfl,by kernel_rfl⟩) (ix_rng2 M z_range (jQ jJ (jQ (ex_cb M (br_len M) z_len PySem.boot_len (jQ (jZ 1) jY)) jY))) (gx_name 0 (hN:=fun _=>(by show (["row","head","rows"]:List Str).Nodup; decide +kernel))) qx_nil (exf_call M.comp B.comp X_p_read_step (jQ (ex_ix ((M.comp).on) (jZ 2) (jZ 0)) (jQ (jZ 1) (jQ (jZ 0) jY)))) (hN:=fun _=>sc_20.nd))
 (bxx_one (sxx_plain (sx_ret (ex_tup (jQ (ex_ix M (jZ 2) jJ) (jQ (ex_ix M (jZ 2) jJ) (jQ (ex_ct M (tr_tuple M) z_tuple boot_tuple (jQ (jZ 3) jY)) jY)))))))))
abbrev st_21:Stmt:=top 32
theorem sc_21:FnScope ["_law_e"] ["_law_e"] (defScope st_21):=by walk_at "s"
def d_21:DS:=dSeq (dIf (dOr (dTru (dCB (isXS csX mroX) (jW (jV 0) (jW (dTup (jW (dFn "NoDance") (jW (dFn "NoName") (jW (dFn "NoRing") (jW (dFn "NoRow") (jW (dFn "OtherSizes") (jW (dFn "TooHeavy") qQ))))))) qQ)))) (dNot (dTru (dCB (isXS csX mroX) (jW (jV 0) (jW (dC (.ty "ValueError")) qQ)))))) (dRet (dC (.str "other"))) dNext)
 (dSeq (dIf (dOr (dNot (dTru (dCB (isXS csX mroX) (jW (jV 0) (jW (dFn "BadText") qQ))))) (dTru (dCB isiS (jW (dGetX gkX "row" (jV 0)) (jW (dC (.ty "bool")) qQ))))) (dRet (dC (.str "other"))) dNext)
 (dRet (dGetX gkX "row" (jV 0))))
def F_21:DF:=fnD none 1 1 d_21
theorem ok_21{f:Addr}{fd:FuncData}(Fn:Fun K "_law_bad" "_law_bad" st_21 f fd)(hm:mg "_law_bad"=some (.ref f))(hb:Binds K fd ["_law_e"] [])(z_ValueError:mg "ValueError"=none)(z_XG:XGC K gkX=true)(z_XK:XKC K csX mroX=true)(z_bool:mg "bool"=none)(z_isinstance:mg "isinstance"=none)(n_BadText:NK K mg "BadText")(n_NoDance:NK K mg "NoDance")(n_NoName:NK K mg "NoName")(n_NoRing:NK K mg "NoRing")(n_NoRow:NK K mg "NoRow")(n_OtherSizes:NK K mg "OtherSizes")(n_TooHeavy:NK K mg "TooHeavy"):FH P wd K mg base (1) "_law_bad" none 1 F_21 :=
 fh_of (k:=0) Fn sc_21 hm hb fun cdv A outer s H E M=>bx_cons (sx_if (tx_w (wx_or (tx_vH M (ex_cbH M (br_isXH M z_XK) z_isinstance boot_isinstance (jQ (jZ 0) (jQ (ex_tup (jQ (ex_fnH M n_NoDance) (jQ (ex_fnH M n_NoName) (jQ (ex_fnH M n_NoRing) (jQ (ex_fnH M n_NoRow) (jQ (ex_fnH M n_OtherSizes) (jQ (ex_fnH M n_TooHeavy) jY))))))) jY)))) (wx_or1 (tx_not (tx_vH M (ex_cbH M (br_isXH M z_XK) z_isinstance boot_isinstance (jQ (jZ 0) (jQ (ex_tyH M z_ValueError (by decide +kernel)) jY)))))))) (bx_one (sx_ret ex_str)) bx_nil)
 (bx_cons (sx_if (tx_w (wx_or (tx_not (tx_vH M (ex_cbH M (br_isXH M z_XK) z_isinstance boot_isinstance (jQ (jZ 0) (jQ (ex_fnH M n_BadText) jY))))) (wx_or1 (tx_vH M (ex_cbH M (br_isiH M) z_isinstance boot_isinstance (jQ (ex_getXH M z_XG (jZ 0)) (jQ (ex_tyH M z_bool boot_bool) jY))))))) (bx_one (sx_ret ex_str)) bx_nil)
 (bx_one (sx_ret (ex_getXH M z_XG (jZ 0)))))
abbrev st_22:Stmt:=top 33
theorem sc_22:FnScope ["_law_text","_law_found","_law_e"] ["_law_text"] (defScope st_22):=by walk_at "s"
def d_22:DS:=dSeq (dSet 1 (dTup (jW (dC (.str "none")) qQ)))
 (dSeq (dTryF 1 (dTupX (dConsX (dPl (dC (.str "told"))) (dConsX (dCallX 1 F_20 (jW (jV 0) qQ)) (dNilX)))) ["BadText"] 2 (dSet 1 (dTup (jW (dC (.str "refused")) (jW (dCall none F_21 [] (jW (jV 2) qQ)) qQ)))))
 (dRet (jV 1)))
def F_22:DF:=fnD none 1 3 d_22
theorem ok_22{f:Addr}{fd:FuncData}(Fn:Fun K "_law_told" "_law_told" st_22 f fd)(hm:mg "_law_told"=some (.ref f))(hb:Binds K fd ["_law_text"] [])(D_21:FH P wd K mg base (1) "_law_bad" none 1 F_21)(cat_CupError_BadText:Cat K mg "CupError" "BadText")(X_p_read_dance:FX P wd K mg base (5) "read_dance" 1 F_20)(catx_CupError_p_read_dance:CatX K mg "CupError" ["BadText"]):FD P wd K mg base (6) "_law_told" none 1 F_22 :=
 fd_of (k:=5) Fn sc_22 hm hb fun cdv A outer s H E M B=>bx_cons (sx_set 1 (ex_tup (jQ ex_str jY)) (hN:=fun _=>sc_22.nd))
 (bx_cons (sx_tryF 1 2 M catx_CupError_p_read_dance (exf_tup (axf_cons (exf_plain ex_str) (axf_cons (exf_call M B X_p_read_dance (jQ (jZ 0) jY)) (axf_nil)))) (bx_one (sx_set 1 (ex_tup (jQ ex_str (jQ (ex_callH (M.inn) (B.inn) D_21 (jQ (jZ 2) jY)) jY))) (hN:=fun _=>sc_22.nd))) (hN:=fun _=>sc_22.nd))
 (bx_one (sx_ret (jZ 1))))
abbrev st_23:Stmt:=top 30
theorem sc_23:FnScope ["_law_cups","_law_piece"] ["_law_cups","_law_piece"] (defScope st_23):=by walk_at "s"
def d_23:DS:=dRet (dOp eqS (dCB sortLS (jW (dCB listTS (jW (jV 1) qQ)) qQ)) (dCB listTS (jW (dSlT (dC (.str "01234")) dNoPart (dPart (jV 0))) qQ)))
def F_23:DF:=fnD none 2 2 d_23
theorem ok_23{f:Addr}{fd:FuncData}(Fn:Fun K "_law_turning_read" "_law_turning_read" st_23 f fd)(hm:mg "_law_turning_read"=some (.ref f))(hb:Binds K fd ["_law_cups","_law_piece"] [])(z_list:mg "list"=none)(z_sorted:mg "sorted"=none):FD P wd K mg base (1) "_law_turning_read" none 2 F_23 :=
 fd_of (k:=0) Fn sc_23 hm hb fun cdv A outer s H E M B=>bx_one (sx_ret (ex_c (cr_eq M) (ex_cb M (br_sortL M) z_sorted boot_sorted (jQ (ex_ct M (tr_listT M) z_list boot_list (jQ (jZ 1) jY)) jY)) (ex_ct M (tr_listT M) z_list boot_list (jQ (ex_slT ex_str ox_none (ox_some (jZ 0))) jY))))
def d_24_e1:DE:=dCB intTS (jW (jV 0) qQ)
def d_24_e2:DE:=dCB tupleS (jW (dComp none [none] (dStrI (jV 0)) (gdName 0) dYes (d_24_e1)) qQ)
def d_24_e3:DE:=dCB strS (jW (jV 0) qQ)
def d_24_b1:DS:=dSeq (dSet 2 (dSM splitS (jV 7) (jW (dC (.str " ")) qQ)))
 (dSeq (dIf (dOr (dTest (dOp neS (dCB lenS (jW (jV 2) qQ)) (dC (.int 3)))) (dTest (dOp (inS true) (dOp ixS (jV 2) (dC (.int 0))) (dComp none [none] (dRng1 (jW (jV 4) qQ)) (gdName 0) dYes (d_24_e3))))) (dRet (dOp addS (jV 6) (dC (.int 1)))) dNext)
 (dSeq (dIf (dOr (dNot (dTru (dCall none F_23 [] (jW (jV 3) (jW (dOp ixS (jV 2) (dC (.int 1))) qQ))))) (dNot (dTru (dCall none F_23 [] (jW (jV 3) (jW (dOp ixS (jV 2) (dC (.int 2))) qQ)))))) (dRet (dOp addS (jV 6) (dC (.int 1)))) dNext)
 (dSeq (dSet 8 (dComp none [none] (dSeqI (dSl (jV 2) (dPart (dC (.int 1))) dNoPart)) (gdName 0) dYes (d_24_e2)))
 (dDrop (dMut 5 hAppend (jW (dTup (jW (dCB intTS (jW (dOp ixS (jV 2) (dC (.int 0))) qQ)) (jW (dOp ixS (jV 8) (dC (.int 0))) (jW (dOp ixS (jV 8) (dC (.int 1))) qQ)))) qQ))))))
def d_24_e4:DE:=dCB strS (jW (jV 0) qQ)
abbrev st_24:Stmt:=top 31
theorem sc_24:FnScope ["_law_text","_law_rows","_law_words","_law_cups","_law_questions","_law_steps","_law_at","_law_row","_law_turnings"] ["_law_text"] (defScope st_24):=by walk_at "s"
def d_24:DS:=dSeq (dSet 1 (dSM splitS (jV 0) (jW (dC (.str "\n")) qQ)))
 (dSeq (dSet 2 (dSM splitS (dOp ixS (jV 1) (dC (.int 0))) (jW (dC (.str " ")) qQ)))
 (dSeq (dIf (dOr (dTest (dOp neS (dCB lenS (jW (jV 2) qQ)) (dC (.int 4)))) (dOr (dTest (dOp neS (dOp ixS (jV 2) (dC (.int 0))) (dC (.str "cups")))) (dOr (dTest (dOp neS (dOp ixS (jV 2) (dC (.int 2))) (dC (.str "questions")))) (dTest (dOp (inS true) (dOp ixS (jV 2) (dC (.int 1))) (dTup (jW (dC (.str "3")) (jW (dC (.str "4")) (jW (dC (.str "5")) qQ))))))))) (dRet (dC (.int 0))) dNext)
 (dSeq (dIf (dTest (dOp (inS true) (dOp ixS (jV 2) (dC (.int 3))) (dComp none [none] (dRng2 (jW (dC (.int 1)) (jW (dC (.int 11)) qQ))) (gdName 0) dYes (d_24_e4)))) (dRet (dC (.int 0))) dNext)
 (dSeq (dPar2 3 4 (jW (dCB intTS (jW (dOp ixS (jV 2) (dC (.int 1))) qQ)) (jW (dCB intTS (jW (dOp ixS (jV 2) (dC (.int 3))) qQ)) qQ)))
 (dSeq (dSet 5 (dLst qQ))
 (dSeq (dFor none (dEnum (jW (dSl (jV 1) (dPart (dC (.int 1))) dNoPart) qQ)) (gdTup 2 (gdCons (gdName 6) (gdCons (gdName 7) gdNil))) (d_24_b1))
 (dRet (dTup (jW (jV 3) (jW (jV 4) (jW (dCB tupleS (jW (jV 5) qQ)) qQ)))))))))))
def F_24:DF:=fnD none 1 9 d_24
theorem ok_24{f:Addr}{fd:FuncData}(Fn:Fun K "_law_dance_read" "_law_dance_read" st_24 f fd)(hm:mg "_law_dance_read"=some (.ref f))(hb:Binds K fd ["_law_text"] [])(z_enumerate:mg "enumerate"=none)(z_int:mg "int"=none)(z_len:mg "len"=none)(z_range:mg "range"=none)(z_str:mg "str"=none)(z_tuple:mg "tuple"=none)(D_23:FD P wd K mg base (1) "_law_turning_read" none 2 F_23):FD P wd K mg base (2) "_law_dance_read" none 1 F_24 :=
 fd_of (k:=1) Fn sc_24 hm hb fun cdv A outer s H E M B=>bx_cons (sx_set 1 (ex_sm M PySem.F.slot_str_split PySem.F.type_str_split (fun _=>mt_split) sims_split (jZ 0) (jQ ex_str jY)) (hN:=fun _=>sc_24.nd))
 (bx_cons (sx_set 2 (ex_sm M PySem.F.slot_str_split PySem.F.type_str_split (fun _=>mt_split) sims_split (ex_ix M (jZ 1) jJ) (jQ ex_str jY)) (hN:=fun _=>sc_24.nd))
 (bx_cons (sx_if (tx_w (wx_or (tx_c (cr_ne M) (ex_cb M (br_len M) z_len PySem.boot_len (jQ (jZ 2) jY)) jJ) (wx_or (tx_c (cr_ne M) (ex_ix M (jZ 2) jJ) ex_str) (wx_or (tx_c (cr_ne M) (ex_ix M (jZ 2) jJ) ex_str) (wx_or1 (tx_c (cr_notIn M) (ex_ix M (jZ 2) jJ) (ex_tup (jQ ex_str (jQ ex_str (jQ ex_str jY)))))))))) (bx_one (sx_ret jJ)) bx_nil)
 (bx_cons (sx_if (tx_c (cr_notIn M) (ex_ix M (jZ 2) jJ) (ex_comp none (N':=["_law_k"]) (ix:=[none]) M (fun _=>⟨rfl,by kernel_rfl⟩) (ix_rng2 M z_range (jQ jJ (jQ jJ jY))) (gx_name 0 (hN:=fun _=>(by show (["_law_k"]:List Str).Nodup; decide +kernel))) qx_nil (ex_ct M.comp (tr_str) z_str boot_str (jQ (jZ 0) jY)) (hix:=hix0))) (bx_one (sx_ret jJ)) bx_nil)
 (bx_cons (sx_par 3 4 M (jQ (ex_ct M (tr_intT) z_int (by decide +kernel) (jQ (ex_ix M (jZ 2) jJ) jY)) (jQ (ex_ct M (tr_intT) z_int (by decide +kernel) (jQ (ex_ix M (jZ 2) jJ) jY)) jY)) (hN:=fun _=>sc_24.nd))
 (bx_cons (sx_set 5 (ex_lst jY) (hN:=fun _=>sc_24.nd))
 (bx_cons (sx_for M (fun _=>PassesOwn.never) (ix_enum M z_enumerate (jQ (ex_sl M (jZ 1) (ox_some jJ) ox_none) jY)) (gx_tup 2 M (gxs_cons (gx_name 6 (hN:=fun _=>sc_24.nd)) (gxs_cons (gx_name 7 (hN:=fun _=>sc_24.nd)) gxs_nil))) (bx_cons (sx_set 2 (ex_sm M PySem.F.slot_str_split PySem.F.type_str_split (fun _=>mt_split) sims_split (jZ 7) (jQ ex_str jY)) (hN:=fun _=>sc_24.nd))
 (bx_cons (sx_if (tx_w (wx_or (tx_c (cr_ne M) (ex_cb M (br_len M) z_len PySem.boot_len (jQ (jZ 2) jY)) jJ) (wx_or1 (tx_c (cr_notIn M) (ex_ix M (jZ 2) jJ) (ex_comp none (N':=["_law_k"]) (ix:=[none]) M (fun _=>⟨rfl,by kernel_rfl⟩) (ix_rng1 M z_range (jQ (jZ 4) jY)) (gx_name 0 (hN:=fun _=>(by show (["_law_k"]:List Str).Nodup; decide +kernel))) qx_nil (ex_ct M.comp (tr_str) z_str boot_str (jQ (jZ 0) jY)) (hix:=hix0)))))) (bx_one (sx_ret (ex_add M (jZ 6) jJ))) bx_nil)
 (bx_cons (sx_if (tx_w (wx_or (tx_not (tx_v M (ex_call M B D_23 (jQ (jZ 3) (jQ (ex_ix M (jZ 2) jJ) jY))))) (wx_or1 (tx_not (tx_v M (ex_call M B D_23 (jQ (jZ 3) (jQ (ex_ix M (jZ 2) jJ) jY)))))))) (bx_one (sx_ret (ex_add M (jZ 6) jJ))) bx_nil)
 (bx_cons (sx_setC 8 none (N':=["_law_piece"]) (ix:=[none]) M (fun _=>⟨rfl,by kernel_rfl⟩) (ix_seq' M (ex_sl M (jZ 2) (ox_some jJ) ox_none)) (gx_name 0 (hN:=fun _=>(by show (["_law_piece"]:List Str).Nodup; decide +kernel))) qx_nil (ex_ct M.comp (tr_tuple M.comp) z_tuple boot_tuple (jQ (ex_comp none (N':=["_law_letter"]) (ix:=[none]) M.comp (fun _=>⟨rfl,by kernel_rfl⟩) (ix_str' M.comp (jZ 0)) (gx_name 0 (hN:=fun _=>(by show (["_law_letter"]:List Str).Nodup; decide +kernel))) qx_nil (ex_ct ((M.comp).comp) (tr_intT) z_int (by decide +kernel) (jQ (jZ 0) jY)) (hix:=hix0)) jY)) (hix:=hix0) (hN:=fun _=>sc_24.nd))
 (bx_one (sx_expr (ex_mut M PySem.F.slot_list_append PySem.F.type_list_append (fun _=>mt_append) mut_append (pv' 5) (jQ (ex_tup (jQ (ex_ct M (tr_intT) z_int (by decide +kernel) (jQ (ex_ix M (jZ 2) jJ) jY)) (jQ (ex_ix M (jZ 8) jJ) (jQ (ex_ix M (jZ 8) jJ) jY)))) jY)))))))))
 (bx_one (sx_ret (ex_tup (jQ (jZ 3) (jQ (jZ 4) (jQ (ex_ct M (tr_tuple M) z_tuple boot_tuple (jQ (jZ 5) jY)) jY))))))))))))
abbrev st_25:Stmt:=top 34
theorem sc_25:FnScope ["_law_text","_law_found"] ["_law_text"] (defScope st_25):=by walk_at "s"
def d_25:DS:=dSeq (dSet 1 (dCall none F_24 [] (jW (jV 0) qQ)))
 (dRet (dTup (jW (dOp ixS (dLst (jW (dC (.str "told")) (jW (dC (.str "refused")) qQ))) (dCB intS (jW (dCB isiS (jW (jV 1) (jW (dC (.ty "int")) qQ))) qQ))) (jW (jV 1) qQ))))
def F_25:DF:=fnD none 1 2 d_25
theorem ok_25{f:Addr}{fd:FuncData}(Fn:Fun K "_law_due" "_law_due" st_25 f fd)(hm:mg "_law_due"=some (.ref f))(hb:Binds K fd ["_law_text"] [])(z_int:mg "int"=none)(z_isinstance:mg "isinstance"=none)(D_24:FD P wd K mg base (2) "_law_dance_read" none 1 F_24):FD P wd K mg base (3) "_law_due" none 1 F_25 :=
 fd_of (k:=2) Fn sc_25 hm hb fun cdv A outer s H E M B=>bx_cons (sx_set 1 (ex_call M B D_24 (jQ (jZ 0) jY)) (hN:=fun _=>sc_25.nd))
 (bx_one (sx_ret (ex_tup (jQ (ex_ix M (ex_lst (jQ ex_str (jQ ex_str jY))) (ex_ct M (tr_int) z_int (by decide +kernel) (jQ (ex_cb M (br_isi M) z_isinstance boot_isinstance (jQ (jZ 1) (jQ (ex_ty M z_int (by decide +kernel)) jY))) jY))) (jQ (jZ 1) jY)))))
def d_law_b1:DS:=dIf (dNot (dTru (dCall none (F_0 fuel_0) [] (jW (dCall none F_22 [] (jW (jV 8) qQ)) (jW (dCall none F_25 [] (jW (jV 8) qQ)) qQ))))) (dRet (dC (.bl false))) dNext
def d_law_b2:DS:=dSet 8 (dCall (some 0) F_13 [] (jW (jV 2) (jW (jV 8) qQ)))
def d_law_b3:DS:=dSeq (dSet 8 (jV 5))
 (dSeq (dFor none (dRng1 (jW (dOp addS (dC (.int 1)) (dCall (some 0) F_4 [] (jW (jV 2) (jW (dC (.int 3)) qQ)))) qQ)) (gdName 9) (d_law_b2))
 (dSet 6 (dOp addS (jV 6) (dLst (jW (jV 8) (jW (jV 5) qQ))))))
def d_law_b4:DS:=dSeq (dSet 2 (dCall none F_1 [] (jW (jV 0) (jW (jV 1) qQ))))
 (dSeq (dPar2 3 4 (jW (dOp addS (dC (.int 3)) (dCall (some 0) F_4 [] (jW (jV 2) (jW (dC (.int 3)) qQ)))) (jW (dOp addS (dC (.int 1)) (dCall (some 0) F_4 [] (jW (jV 2) (jW (dC (.int 10)) qQ)))) qQ)))
 (dSeq (dSet 5 (dSM joinS (dC (.str "\n")) (jW (dCall none F_3 [] (jW (dCall (some 0) F_8 [] (jW (jV 2) (jW (jV 3) (jW (jV 4) (jW (dC (.int 6)) qQ))))) qQ)) qQ)))
 (dSeq (dSet 6 (dLst (jW (jV 5) qQ)))
 (dSeq (dFor none (dRng1 (jW (dC (.int 4)) qQ)) (gdName 7) (d_law_b3))
 (dFor none (dSeqI (jV 6)) (gdName 8) (d_law_b1))))))
abbrev st_law:Stmt:=top 38
theorem sc_law:FnScope ["_law_script","_law_k","_law_box_here","_law_cups","_law_questions","_law_good","_law_texts","_law_turn","_law_text","_law_more"] ["_law_script"] (defScope st_law):=by walk_at "s"
def d_law:DS:=dSeq (dFor none (dRng1 (jW (dC (.int 4)) qQ)) (gdName 1) (d_law_b4))
 (dRet (dC (.bl true)))
def F_law:DF:=fnD none 1 10 d_law
theorem ok_law{f:Addr}{fd:FuncData}(Fn:Fun K "law" "law" st_law f fd)(z_range:mg "range"=none)(D_1:FD P wd K mg base (1) "_law_box" none 2 F_1)(D_3:FD P wd K mg base (2) "_law_dance_rows" none 1 F_3)(D_4:FD P wd K mg base (1) "_law_take" (some 0) 2 F_4)(D_8:FD P wd K mg base (4) "_law_dance" (some 0) 4 F_8)(D_13:FD P wd K mg base (4) "_law_otherwise" (some 0) 2 F_13)(D_0:FD P wd K mg base (12) "_law_alike" none 2 (F_0 fuel_0))(D_22:FD P wd K mg base (6) "_law_told" none 1 F_22)(D_25:FD P wd K mg base (3) "_law_due" none 1 F_25):FnOk P wd K mg base CX0 13 f fd ["_law_script"] (spD K none 1 F_law) :=
 zKG (k:=12) Fn sc_law fun cdv A outer s H E M B=>bx_cons (sx_for M (fun _=>PassesOwn.never) (ix_rng1 M z_range (jQ jJ jY)) (gx_name 1 (hN:=fun _=>sc_law.nd)) (bx_cons (sx_set 2 (ex_call M B D_1 (jQ (jZ 0) (jQ (jZ 1) jY))) (hN:=fun _=>sc_law.nd))
 (bx_cons (sx_par 3 4 M (jQ (ex_add M jJ (ex_call M B D_4 (jQ (jZ 2) (jQ jJ jY)))) (jQ (ex_add M jJ (ex_call M B D_4 (jQ (jZ 2) (jQ jJ jY)))) jY)) (hN:=fun _=>sc_law.nd))
 (bx_cons (sx_set 5 (ex_sm M PySem.F.slot_str_join PySem.F.type_str_join (fun _=>mt_join) sims_join ex_str (jQ (ex_call M B D_3 (jQ (ex_call M B D_8 (jQ (jZ 2) (jQ (jZ 3) (jQ (jZ 4) (jQ jJ jY))))) jY)) jY)) (hN:=fun _=>sc_law.nd))
 (bx_cons (sx_set 6 (ex_lst (jQ (jZ 5) jY)) (hN:=fun _=>sc_law.nd))
 (bx_cons (sx_for M (fun _=>PassesOwn.never) (ix_rng1 M z_range (jQ jJ jY)) (gx_name 7 (hN:=fun _=>sc_law.nd)) (bx_cons (sx_set 8 (jZ 5) (hN:=fun _=>sc_law.nd))
 (bx_cons (sx_for M (fun _=>PassesOwn.never) (ix_rng1 M z_range (jQ (ex_add M jJ (ex_call M B D_4 (jQ (jZ 2) (jQ jJ jY)))) jY)) (gx_name 9 (hN:=fun _=>sc_law.nd)) (bx_one (sx_set 8 (ex_call M B D_13 (jQ (jZ 2) (jQ (jZ 8) jY))) (hN:=fun _=>sc_law.nd))))
 (bx_one (sx_set 6 (ex_add M (jZ 6) (ex_lst (jQ (jZ 8) (jQ (jZ 5) jY)))) (hN:=fun _=>sc_law.nd))))))
 (bx_one (sx_for M (fun _=>PassesOwn.never) (ix_seq' M (jZ 6)) (gx_name 8 (hN:=fun _=>sc_law.nd)) (bx_one (sx_if (tx_not (tx_v M (ex_call M B D_0 (jQ (ex_call M B D_22 (jQ (jZ 8) jY)) (jQ (ex_call M B D_25 (jQ (jZ 8) jY)) jY))))) (bx_one (sx_ret ex_bl)) bx_nil))))))))))
 (bx_one (sx_ret ex_bl))
end
theorem zI3(a b w:Int)(h0:0 < w)(h1:w < 1073741824):∃ r a' b',0<=r/\r < w/\F_4 [.l [iT a,iT b],.v (iT w)]=some (.v (iT r),[iT a',iT b']):=by
 have h2:CDiv a w:=⟨h0,h1⟩
 by_cases h:0 < a
 ·refine⟨a % w,a / w,b,Int.emod_nonneg _ (by omega),Int.emod_lt_of_pos _ h0,?_⟩
  simp[F_4,fnD,d_4,h,h0,h2,ixN]
 ·refine⟨(b * 69623 % 2147483647 * 2147483647+((b * 69623 % 2147483647 * 48271+30103) % 2147483629+1)) / 8191 % w,a,(b * 69623 % 2147483647 * 48271+30103) % 2147483629+1,Int.emod_nonneg _ (by omega),Int.emod_lt_of_pos _ h0,?_⟩
  simp[F_4,fnD,d_4,h,h0,h2,ixN,CMul,CDiv]
theorem zAE(a b:Int)(w:Nat)(h0:0 < w)(h1:w<=1000000000):∃ (r:Nat) (a' b':Int),r < w/\F_4 [.l [iT a,iT b],.v (iT (w:Int))]=some (.v (iT (r:Int)),[iT a',iT b']):=by
 obtain⟨r,a',b',r0,r1,e⟩:=zI3 a b w (by omega) (by omega)
 obtain⟨n,rfl⟩:∃ n:Nat,r=n:=⟨r.toNat,by omega⟩
 exact⟨n,a',b',by omega,e⟩
theorem zJi(ns:List Int)(k:Int)(hk:0<=k)(hk1:k < 1000):∃ a b,F_1 [.k (intsT ns),.v (iT k)]=some (.l [iT a,iT b],[]):=by
 have hl:(intsT ns).length=ns.length:=by simp[intsT]
 have fin:∀ c:Int,∃ a,atI [T.a (V.int 0),T.a (V.int c)] (if (1000000000000000000:Int)<=c then 1 else 0)=some (iT a):=fun c=>by
  split
  ·exact⟨c,rfl⟩
  ·exact⟨0,rfl⟩
 have c1:CMul 7919 k:=.inl ⟨by decide,by decide⟩
 have c2:CMul 40692 k:=.inl ⟨by decide,by decide⟩
 have c3:∀ m:Int,CMul m 69623:=fun m=>.inr ⟨by decide,by decide⟩
 have c4:∀ m:Int,CMul m 48271:=fun m=>.inr ⟨by decide,by decide⟩
 have c5:CPow 10 18:=⟨by decide,by decide,by decide⟩
 by_cases h1:k < ns.length
 ·obtain⟨z,hz⟩:=zD3 ns hk h1
  obtain⟨a,ha⟩:=fin z
  refine⟨a,(z % 2147483629 * 48271+40692 * k) % 2147483629+1,?_⟩
  simp[F_1,fnD,d_1,hl,h1,c1,c2,c3,c4,c5,hz,ha,gd,zCW]
 ·by_cases h2:0 < ns.length
  ·obtain⟨z,hz⟩:=zD3 ns (i:=k % ns.length) (Int.emod_nonneg _ (by omega)) (Int.emod_lt_of_pos _ (by omega))
   obtain⟨a,ha⟩:=fin (7919 * k+11+z % 2147483629 * 69623)
   refine⟨a,((7919 * k+11+z % 2147483629 * 69623) % 2147483629 * 48271+40692 * k) % 2147483629+1,?_⟩
   simp[F_1,fnD,d_1,hl,h1,h2,c1,c2,c3,c4,c5,hz,ha,gd,zCW]
  ·obtain⟨a,ha⟩:=fin (7919 * k+11)
   refine⟨a,((7919 * k+11) % 2147483629 * 48271+40692 * k) % 2147483629+1,?_⟩
   simp[F_1,fnD,d_1,hl,h1,h2,c1,c2,c3,c4,c5,ha,gd,zCW]
theorem zDe:∀ (m:Nat) (ls fs:List Nat) (a b n:Int) (fuel:Nat),ls.length=m->m < fuel->ls.length+fs.length<=5->∃ fs' a' b',fs'.Perm (fs++ls) /\
  dWhile zCC zED fuel [some (.l [iT a,iT b]),some (.v (iT n)),some (.l (tvT ls)),some (.v (tuT fs))]=some (.nx [some (.l [iT a',iT b']),some (.v (iT n)),some (.l []),some (.v (tuT fs'))]):=by
 intro m
 induction m with
 | zero =>
  intro ls fs a b n fuel hl hf h5
  obtain rfl:ls=[]:=List.length_eq_zero_iff.mp hl
  obtain⟨f,rfl⟩:∃ f,fuel=f+1:=⟨fuel - 1,by omega⟩
  exact⟨fs,a,b,by simp,by rw[zBm]; simp[zCC]⟩
 | succ m ih =>
  intro ls fs a b n fuel hl hf h5
  obtain⟨f,rfl⟩:∃ f,fuel=f+1:=⟨fuel - 1,by omega⟩
  obtain⟨r,a',b',hr,e⟩:=zAE a b ls.length (by omega) (by omega)
  obtain⟨z,hz⟩:∃ z,ls[r]?=some z:=⟨ls[r],by simp[hr]⟩
  obtain⟨fs',a2,b2,hp,e2⟩:=ih (ls.eraseIdx r) (fs++[z]) a' b' n f (by rw[List.length_eraseIdx_of_lt hr]; omega) (by omega) (by rw[List.length_eraseIdx_of_lt hr]; simp; omega)
  refine⟨fs',a2,b2,hp.trans (zFl hz),?_⟩
  rw[← e2,zBm]
  have hpos:(0:Int) < ls.length:=by omega
  have hb:inR 9223372036854775807 (r:Int)=true:=zBg (by omega)
  have g1:ls.length<=sizeLine:=line_big (by omega)
  have g2:fs.length+1<=sizeLine:=line_big (by omega)
  have g3:(1:Nat)<=sizeLine:=by decide
  simp[zCC,zED,hpos,e,hb,zDs hr,hz,gd,g1,g2,g3,show 0 < ls.length by omega,zGn]
theorem zB9(a b:Int)(n:Nat)(hn:n<=5):∃ t a' b',IsT n t/\F_5 [.l [iT a,iT b],.v (iT (n:Int))]=some (.v (tuT t),[iT a',iT b']):=by
 obtain⟨t,a',b',hp,e⟩:=zDe n (List.range n) [] a b n fuelW (by simp) (by rw[zHn]; omega) (by simp; exact hn)
 refine⟨t,a',b',zET (by simpa using hp),?_⟩
 simp only[tuT,tvT,List.map_nil]at e
 simp[F_5,fnD,d_5,zAS n (by omega),zBd,gd,e]
theorem zEl(n:Nat)(t:List Nat)(h:IsT n t)(hn:n<=5):F_7 [.v (tuT t)]=some (.v (tuT (backL t)),[]):=by
 have hl:=h.len
 obtain⟨o',e⟩:=zDy (fun (i:Nat)=>iT (i:Int)) (fun (i:Nat)=>iT (t.idxOf i:Nat)) (de:=zDZ) (R:=[some (.v (tuT t))]) (List.range n) (fun i hi=>by
  have f1:=zG8 (h.mem (show i < n by simpa using hi))
  simp[zDZ,zDp t,zIC t,f1,flatV]) none
 have e2:=zBd n
 simp only[tuT,tvT,iT]at e e2
 simp[F_7,fnD,d_7,hl,zAS n (by omega),e2,e,backL]
@[simp] theorem zLV:(0:Nat) < sizeLine:=by decide
def StepOk(n qs:Nat)(s:T):Prop:=∃ (q:Nat) (y z:List Nat),q < qs/\IsT n y/\IsT n z/\s=.t [iT (q:Int),tuT y,tuT z]
theorem zAG{f g:DS}{Γ Γ':En}{r:Option O}(h:f Γ=some (.nx Γ'))(k:g Γ'=r):dSeq f g Γ=r:=by rw[zIR,h]; exact k
theorem zGU{ta:DT}{f g:DS}{Γ Γ':En}{r:Option O}(h:ta Γ=some (true,Γ'))(k:f Γ'=r):dIf ta f g Γ=r:=by rw[zF8,h]; exact k
theorem zBY{ta:DT}{f g:DS}{Γ Γ':En}{r:Option O}(h:ta Γ=some (false,Γ'))(k:g Γ'=r):dIf ta f g Γ=r:=by rw[zF8,h]; exact k
theorem zIt(a b:Int)(n qs:Nat)(hn:n<=5)(h0:0 < qs)(hq:qs<=10):∃ s a' b',StepOk n qs s/\F_6 [.l [iT a,iT b],.v (iT (n:Int)),.v (iT (qs:Int))]=some (.v s,[iT a',iT b']):=by
 obtain⟨f,a1,b1,hf,e1⟩:=zAE a b 8 (by decide) (by decide)
 obtain⟨q,a2,b2,hq2,e2⟩:=zAE a1 b1 qs h0 (by omega)
 obtain⟨y,a3,b3,hy,e3⟩:=zB9 a2 b2 n hn
 obtain⟨z,a4,b4,hz,e4⟩:=zB9 a3 b3 n hn
 have e1':F_4 [.l [iT a,iT b],.v (.a (.int 8))]=some (.v (iT (f:Int)),[iT a1,iT b1]):=e1
 have g3:(3:Nat)<=sizeLine:=by decide
 have r1:=zAS n (by omega)
 have rt:=zBd n
 have body:∃ y' z',IsT n y'/\IsT n z'/\d_6 [some (.l [iT a,iT b]),some (.v (iT (n:Int))),some (.v (iT (qs:Int))),none,none,none,none]=some (.rt (.v (.t [iT (q:Int),tuT y',tuT z'])) [some (.l [iT a4,iT b4]),some (.v (iT (n:Int))),some (.v (iT (qs:Int))),some (.v (iT (f:Int))),some (.v (iT (q:Int))),some (.v (tuT y')),some (.v (tuT z'))]):=by
  refine⟨if f=3 then List.range n else y,if f < 2 then y else if f=2 then List.range n else z,by split; exact zCx n; exact hy,by split; exact hy; split; exact zCx n; exact hz,?_⟩
  have cf:tuT (if f=3 then List.range n else y)=if f=3 then tuT (List.range n) else tuT y:=by split <;> rfl
  have cg:tuT (if f < 2 then y else if f=2 then List.range n else z)=if f < 2 then tuT y else if f=2 then tuT (List.range n) else tuT z:=by split; rfl; split <;> rfl
  rw[cf,cg]
  have rt':T.t (rngT 0 n)=tuT (List.range n):=by rw[rt]
  clear rt cf cg
  generalize tuT (List.range n)=TR at *
  generalize tuT y=TY at *
  generalize tuT z=TZ at *
  simp only[iT]at e1' e2 e3 e4 ⊢
  unfold d_6
  refine zAG (Γ':=[some (.l [.a (.int a1),.a (.int b1)]),some (.v (.a (.int (n:Int)))),some (.v (.a (.int (qs:Int)))),some (.v (.a (.int (f:Int)))),none,none,none]) (by simp[e1']) ?_
  refine zAG (Γ':=[some (.l [.a (.int a4),.a (.int b4)]),some (.v (.a (.int (n:Int)))),some (.v (.a (.int (qs:Int)))),some (.v (.a (.int (f:Int)))),some (.v (.a (.int (q:Int)))),some (.v TY),some (.v TZ)]) (by simp[e2,e3,e4]) ?_
  generalize [T.a (.int a4),T.a (.int b4)]=BX
  by_cases c1:f < 2
  ·have d1:(f:Int) < 2:=by omega
   have d2:¬ (f:Int)=2:=by omega
   have d3:¬ (f:Int)=3:=by omega
   have d4:¬ f=3:=by omega
   rw[if_pos c1,if_neg d4]
   simp[d1,d2,d3,gd,g3]
  ·have d1:¬ (f:Int) < 2:=by omega
   rw[if_neg c1]
   by_cases c2:f=2
   ·subst c2
    simp[gd,g3,r1,rt']
   ·have d2:¬ (f:Int)=2:=by omega
    rw[if_neg c2]
    by_cases c3:f=3
    ·subst c3
     simp[gd,g3,r1,rt']
    ·have d3:¬ (f:Int)=3:=by omega
     rw[if_neg c3]
     simp[d1,d2,d3,gd,g3]
 obtain⟨y',z',hy',hz',eb⟩:=body
 refine⟨_,a4,b4,⟨q,y',z',hq2,hy',hz',rfl⟩,?_⟩
 simp only[iT]at eb ⊢
 simp[F_6,fnD,eb]
def StepsOk(n qs:Nat)(ss:List T):Prop:=∀ s∈ss,StepOk n qs s
theorem zFR(n qs:Nat)(hn:n<=5)(h0:0 < qs)(hq:qs<=10)(m:T):∀ (its:List T) (a b:Int) (ss:List T) (o5 o6 o7 o8 o9 o10:Option G),StepsOk n qs ss->its.length+ss.length<=1000->∃ a' b' ss' o5' o6' o7' o8' o9' o10',StepsOk n qs ss'/\ss'.length=ss.length+its.length /\
  forD (gdName 5) zAl its [some (.l [iT a,iT b]),some (.v (iT (n:Int))),some (.v (iT (qs:Int))),some (.v m),some (.l ss),o5,o6,o7,o8,o9,o10] =
   some (.nx [some (.l [iT a',iT b']),some (.v (iT (n:Int))),some (.v (iT (qs:Int))),some (.v m),some (.l ss'),o5',o6',o7',o8',o9',o10']):=by
 intro its
 induction its with
 | nil=>intro a b ss o5 o6 o7 o8 o9 o10 h _; exact⟨a,b,ss,o5,o6,o7,o8,o9,o10,h,by simp,by rw[forD_nil]⟩
 | cons t r ih =>
  intro a b ss o5 o6 o7 o8 o9 o10 h hl
  obtain⟨s,a1,b1,hs,e1⟩:=zIt a b n qs hn h0 hq
  obtain⟨f,a2,b2,hf,e2⟩:=zAE a1 b1 6 (by decide) (by decide)
  have e2':F_4 [.l [iT a1,iT b1],.v (.a (.int 6))]=some (.v (iT (f:Int)),[iT a2,iT b2]):=e2
  have g1:ss.length<=sizeLine:=line_big (by simp at hl; omega)
  have g2:ss.length < sizeLine:=line_lt (by simp at hl; omega)
  have g3:(3:Nat)<=sizeLine:=by decide
  have g4:(1:Nat)<=sizeLine:=by decide
  have turn:∃ s' o6' o7' o8' o9' o10',StepOk n qs s'/\zAl [some (.l [iT a,iT b]),some (.v (iT (n:Int))),some (.v (iT (qs:Int))),some (.v m),some (.l ss),some (.v t),o6,o7,o8,o9,o10] =
    some (.nx [some (.l [iT a2,iT b2]),some (.v (iT (n:Int))),some (.v (iT (qs:Int))),some (.v m),some (.l (ss++[s'])),some (.v t),o6',o7',o8',o9',o10']):=by
   by_cases hss:ss=[]
   ·subst hss
    refine⟨s,some (.v s),some (.v (iT (f:Int))),o8,o9,o10,hs,?_⟩
    have g0:¬ sizeLine=0:=by decide
    unfold zAl
    refine zAG (Γ':=[some (.l [iT a1,iT b1]),some (.v (iT (n:Int))),some (.v (iT (qs:Int))),some (.v m),some (.l []),some (.v t),some (.v s),o7,o8,o9,o10]) (by simp[e1]) (zAG (Γ':=[some (.l [iT a2,iT b2]),some (.v (iT (n:Int))),some (.v (iT (qs:Int))),some (.v m),some (.l []),some (.v t),some (.v s),some (.v (iT (f:Int))),o8,o9,o10]) (by simp[e2']) ?_)
    refine zAG (Γ':=[some (.l [iT a2,iT b2]),some (.v (iT (n:Int))),some (.v (iT (qs:Int))),some (.v m),some (.l []),some (.v t),some (.v s),some (.v (iT (f:Int))),o8,o9,o10]) (zBY (by by_cases c:(f:Int) < 2 <;> simp[c]) rfl) (zAG (Γ':=[some (.l [iT a2,iT b2]),some (.v (iT (n:Int))),some (.v (iT (qs:Int))),some (.v m),some (.l []),some (.v t),some (.v s),some (.v (iT (f:Int))),o8,o9,o10]) (zBY (by by_cases c:(f:Int)=2 <;> simp[c]) rfl) (by simp[gd,g0]))
   ·have hpos:0 < ss.length:=List.length_pos_iff.mpr hss
    have hpos':(0:Int) < ss.length:=by omega
    obtain⟨s0,hs0⟩:∃ s0,ss[ss.length - 1]?=some s0:=⟨ss[ss.length - 1]'(by omega),by simp⟩
    obtain⟨q0,y0,z0,hq0,hy0,hz0,rfl⟩:=h s0 (List.mem_of_getElem? hs0)
    obtain⟨q1,y1,z1,hq1,hy1,hz1,rfl⟩:=hs
    have at1:=zJ0 hss
    by_cases c1:f < 2
    ·have d1:(f:Int) < 2:=by omega
     have d2:¬ (f:Int)=2:=by omega
     refine⟨.t [iT (q0:Int),tuT y1,tuT z1],some (.v (.t [iT (q0:Int),tuT y1,tuT z1])),some (.v (iT (f:Int))),o8,o9,o10,⟨q0,y1,z1,hq0,hy1,hz1,rfl⟩,?_⟩
     have ec:cutT [iT (q1:Int),tuT y1,tuT z1] (some 1) none=[tuT y1,tuT z1]:=rfl
     simp only[iT]at ec
     generalize tuT y1=TY at *
     generalize tuT z1=TZ at *
     unfold zAl
     refine zAG (Γ':=[some (.l [iT a1,iT b1]),some (.v (iT (n:Int))),some (.v (iT (qs:Int))),some (.v m),some (.l ss),some (.v t),some (.v (.t [iT (q1:Int),TY,TZ])),o7,o8,o9,o10]) (by simp[e1]) (zAG (Γ':=[some (.l [iT a2,iT b2]),some (.v (iT (n:Int))),some (.v (iT (qs:Int))),some (.v m),some (.l ss),some (.v t),some (.v (.t [iT (q1:Int),TY,TZ])),some (.v (iT (f:Int))),o8,o9,o10]) (by simp[e2']) ?_)
     refine zAG (Γ':=[some (.l [iT a2,iT b2]),some (.v (iT (n:Int))),some (.v (iT (qs:Int))),some (.v m),some (.l ss),some (.v t),some (.v (.t [iT (q0:Int),TY,TZ])),some (.v (iT (f:Int))),o8,o9,o10]) (zGU (Γ':=[some (.l [iT a2,iT b2]),some (.v (iT (n:Int))),some (.v (iT (qs:Int))),some (.v m),some (.l ss),some (.v t),some (.v (.t [iT (q1:Int),TY,TZ])),some (.v (iT (f:Int))),o8,o9,o10]) (by simp[d1,hpos,hpos']) (by simp[gd,g3,g4,at1,hs0,ec])) (zAG (Γ':=[some (.l [iT a2,iT b2]),some (.v (iT (n:Int))),some (.v (iT (qs:Int))),some (.v m),some (.l ss),some (.v t),some (.v (.t [iT (q0:Int),TY,TZ])),some (.v (iT (f:Int))),o8,o9,o10]) (zBY (Γ':=[some (.l [iT a2,iT b2]),some (.v (iT (n:Int))),some (.v (iT (qs:Int))),some (.v m),some (.l ss),some (.v t),some (.v (.t [iT (q0:Int),TY,TZ])),some (.v (iT (f:Int))),o8,o9,o10]) (by simp[d2]) rfl) (by simp[gd,g1,g2]))
    ·have d1:¬ (f:Int) < 2:=by omega
     by_cases c2:f=2
     ·subst c2
      refine⟨.t [iT (q0:Int),tuT (backL y0),tuT (backL z0)],some (.v (.t [iT (q0:Int),tuT (backL y0),tuT (backL z0)])),some (.v (iT 2)),some (.v (iT (q0:Int))),some (.v (tuT y0)),some (.v (tuT z0)),⟨q0,backL y0,backL z0,hq0,zDA hy0,zDA hz0,rfl⟩,?_⟩
      have k1:=zEl n y0 hy0 hn
      have k2:=zEl n z0 hz0 hn
      generalize tuT y1=TY at *
      generalize tuT z1=TZ at *
      generalize tuT (backL y0)=TB at *
      generalize tuT (backL z0)=TC at *
      generalize tuT y0=TU at *
      generalize tuT z0=TV at *
      unfold zAl
      refine zAG (Γ':=[some (.l [iT a1,iT b1]),some (.v (iT (n:Int))),some (.v (iT (qs:Int))),some (.v m),some (.l ss),some (.v t),some (.v (.t [iT (q1:Int),TY,TZ])),o7,o8,o9,o10]) (by simp[e1]) (zAG (Γ':=[some (.l [iT a2,iT b2]),some (.v (iT (n:Int))),some (.v (iT (qs:Int))),some (.v m),some (.l ss),some (.v t),some (.v (.t [iT (q1:Int),TY,TZ])),some (.v (iT 2)),o8,o9,o10]) (by simp[e2']) ?_)
      refine zAG (Γ':=[some (.l [iT a2,iT b2]),some (.v (iT (n:Int))),some (.v (iT (qs:Int))),some (.v m),some (.l ss),some (.v t),some (.v (.t [iT (q1:Int),TY,TZ])),some (.v (iT 2)),o8,o9,o10]) (zBY (Γ':=[some (.l [iT a2,iT b2]),some (.v (iT (n:Int))),some (.v (iT (qs:Int))),some (.v m),some (.l ss),some (.v t),some (.v (.t [iT (q1:Int),TY,TZ])),some (.v (iT 2)),o8,o9,o10]) (by simp) rfl) (zAG (Γ':=[some (.l [iT a2,iT b2]),some (.v (iT (n:Int))),some (.v (iT (qs:Int))),some (.v m),some (.l ss),some (.v t),some (.v (.t [iT (q0:Int),TB,TC])),some (.v (iT 2)),some (.v (iT (q0:Int))),some (.v TU),some (.v TV)]) (zGU (Γ':=[some (.l [iT a2,iT b2]),some (.v (iT (n:Int))),some (.v (iT (qs:Int))),some (.v m),some (.l ss),some (.v t),some (.v (.t [iT (q1:Int),TY,TZ])),some (.v (iT 2)),o8,o9,o10]) (by simp[hpos,hpos']) (zAG (Γ':=[some (.l [iT a2,iT b2]),some (.v (iT (n:Int))),some (.v (iT (qs:Int))),some (.v m),some (.l ss),some (.v t),some (.v (.t [iT (q1:Int),TY,TZ])),some (.v (iT 2)),some (.v (iT (q0:Int))),some (.v TU),some (.v TV)]) (by simp[at1,hs0]) (by simp[gd,g3,k1,k2]))) (by simp[gd,g1,g2]))
     ·have d2:¬ (f:Int)=2:=by omega
      refine⟨.t [iT (q1:Int),tuT y1,tuT z1],some (.v (.t [iT (q1:Int),tuT y1,tuT z1])),some (.v (iT (f:Int))),o8,o9,o10,⟨q1,y1,z1,hq1,hy1,hz1,rfl⟩,?_⟩
      generalize tuT y1=TY at *
      generalize tuT z1=TZ at *
      unfold zAl
      refine zAG (Γ':=[some (.l [iT a1,iT b1]),some (.v (iT (n:Int))),some (.v (iT (qs:Int))),some (.v m),some (.l ss),some (.v t),some (.v (.t [iT (q1:Int),TY,TZ])),o7,o8,o9,o10]) (by simp[e1]) (zAG (Γ':=[some (.l [iT a2,iT b2]),some (.v (iT (n:Int))),some (.v (iT (qs:Int))),some (.v m),some (.l ss),some (.v t),some (.v (.t [iT (q1:Int),TY,TZ])),some (.v (iT (f:Int))),o8,o9,o10]) (by simp[e2']) ?_)
      refine zAG (Γ':=[some (.l [iT a2,iT b2]),some (.v (iT (n:Int))),some (.v (iT (qs:Int))),some (.v m),some (.l ss),some (.v t),some (.v (.t [iT (q1:Int),TY,TZ])),some (.v (iT (f:Int))),o8,o9,o10]) (zBY (Γ':=[some (.l [iT a2,iT b2]),some (.v (iT (n:Int))),some (.v (iT (qs:Int))),some (.v m),some (.l ss),some (.v t),some (.v (.t [iT (q1:Int),TY,TZ])),some (.v (iT (f:Int))),o8,o9,o10]) (by simp[d1]) rfl) (zAG (Γ':=[some (.l [iT a2,iT b2]),some (.v (iT (n:Int))),some (.v (iT (qs:Int))),some (.v m),some (.l ss),some (.v t),some (.v (.t [iT (q1:Int),TY,TZ])),some (.v (iT (f:Int))),o8,o9,o10]) (zBY (Γ':=[some (.l [iT a2,iT b2]),some (.v (iT (n:Int))),some (.v (iT (qs:Int))),some (.v m),some (.l ss),some (.v t),some (.v (.t [iT (q1:Int),TY,TZ])),some (.v (iT (f:Int))),o8,o9,o10]) (by simp[d2]) rfl) (by simp[gd,g1,g2]))
  obtain⟨s',o6',o7',o8',o9',o10',hs',e3⟩:=turn
  obtain⟨a',b',ss',p5,p6,p7,p8,p9,p10,hss',hl',e4⟩:=ih a2 b2 (ss++[s']) (some (.v t)) o6' o7' o8' o9' o10' (fun x hx=>(List.mem_append.mp hx).elim (h x) (fun z=>List.mem_singleton.mp z ▸ hs')) (by simp at hl ⊢; omega)
  refine⟨a',b',ss',p5,p6,p7,p8,p9,p10,hss',by rw[hl']; simp; omega,?_⟩
  rw[zBR]
  show (zAl [some (.l [iT a,iT b]),some (.v (iT (n:Int))),some (.v (iT (qs:Int))),some (.v m),some (.l ss),some (.v t),o6,o7,o8,o9,o10]).bind _=_
  rw[e3]
  exact e4
def danceT(n qs:Nat)(ss:List T):T:=.t [iT (n:Int),iT (qs:Int),.t ss]
theorem zG7(a b:Int)(n qs m:Nat)(hn:n<=5)(h0:0 < qs)(hq:qs<=10)(hm:m<=500):∃ ss a' b',StepsOk n qs ss/\ss.length<=m/\F_8 [.l [iT a,iT b],.v (iT (n:Int)),.v (iT (qs:Int)),.v (iT (m:Int))]=some (.v (danceT n qs ss),[iT a',iT b']):=by
 obtain⟨r,a1,b1,hr,e1⟩:=zAE a b (m+1) (by omega) (by omega)
 obtain⟨a',b',ss,p5,p6,p7,p8,p9,p10,hss,hl,e2⟩:=zFR n qs hn h0 hq (iT (m:Int)) (rngT 0 r) a1 b1 [] none none none none none none (fun s hs=>nomatch hs) (by simp[rngT]; omega)
 have hl':ss.length=r:=by rw[hl]; simp[rngT]
 refine⟨ss,a',b',hss,by omega,?_⟩
 have e1':F_4 [.l [iT a,iT b],.v (.a (.int ((m:Int)+1)))]=some (.v (iT (r:Int)),[iT a1,iT b1]):=e1
 have g1:ss.length<=sizeLine:=line_big (by omega)
 have g3:(3:Nat)<=sizeLine:=by decide
 simp only[iT]at e1' e2
 simp[F_8,fnD,d_8,e1',zAS r (by omega),e2,gd,g1,g3,danceT]
def Pl:Nat->T->Prop
 | 0,t=>∃ v,t=.a v/\(tyN [] (.v (.a v))).isSome=true
 | n+1,t=>(∃ v,t=.a v/\(tyN [] (.v (.a v))).isSome=true)\/∃ ts:List T,t=.t ts/\ts.length<=10000/\∀ x∈ts,Pl n x
theorem Pl.atom{n:Nat}{v:V}(h:(tyN [] (.v (.a v))).isSome=true):Pl n (.a v):=by
 cases n with
 | zero=>exact⟨v,rfl,h⟩
 | succ n=>exact .inl ⟨v,rfl,h⟩
theorem Pl.int{n:Nat}(i:Int):Pl n (iT i):=Pl.atom rfl
theorem Pl.tup{n:Nat}{ts:List T}(hl:ts.length<=10000)(h:∀ x∈ts,Pl n x):Pl (n+1) (.t ts):=.inr ⟨ts,rfl,hl,h⟩
theorem Pl.turn{n:Nat}{t:List Nat}(h:t.length<=10000):Pl (n+1) (tuT t):=Pl.tup (by simpa using h) fun x hx=>by
 obtain⟨k,_,rfl⟩:=List.mem_map.mp hx
 exact Pl.int _
theorem zHU(xs:List T):zipT xs xs=xs.map fun x=>.t [x,x]:=by
 unfold zipT
 induction xs with
 | nil=>rfl
 | cons x r ih=>simp[ih]
theorem zCN(rec:DF)(v:V)(h:(tyN [] (.v (.a v))).isSome=true):fnD none 2 2 (d_0 rec) [.v (.a v),.v (.a v)]=some (.v (bT true),[]):=by
 have g2:(2:Nat)<=sizeLine:=by decide
 cases v with
 | int i=>simp[fnD,d_0,gd,g2,isiS,tyN,subLT,subTy]
 | bl b=>simp[fnD,d_0,gd,g2,isiS,tyN,subLT,subTy]
 | str x=>simp[fnD,d_0,gd,g2,isiS,tyN,subLT,subTy]
 | non =>
  have e:∀ Γ,eqS Γ (.v (.a .non)) (.v (.a .non))=some (.v (.a (.bl true))):=fun Γ=>rfl
  simp[fnD,d_0,gd,g2,isiS,tyN,subLT,subTy,e]
 | byt _=>cases h
 | flt _=>cases h
 | ref _=>cases h
 | ty _=>cases h
theorem zEX(rec:DF)(ts:List T)(hl:ts.length<=10000)(h:∀ x∈ts,rec [.v x,.v x]=some (.v (bT true),[])):fnD none 2 2 (d_0 rec) [.v (.t ts),.v (.t ts)]=some (.v (bT true),[]):=by
 have g2:(2:Nat)<=sizeLine:=by decide
 have g3:ts.length<=sizeLine:=line_big (by omega)
 obtain⟨o1,o2,e⟩:=zCq (fun x:T=>x) (fun x=>x) (fun _=>bT true) (de:=d_0_e1 rec) (R:=[]) ts (fun x hx=>by
  have:=h x hx
  simp only[bT]at this
  simp[d_0_e1,this]) none none
 have e':compD (gdTup 2 (gdCons (gdName 0) (gdCons (gdName 1) gdNil))) dYes (d_0_e1 rec) (zipT ts ts) [none,none]=some (List.replicate ts.length (T.a (V.bl true)),[o1,o2]):=by
  rw[zHU,e,List.map_const']
 simp[fnD,d_0,gd,g2,g3,isiS,tyN,subLT,subTy,dZip,e']
theorem zDl:∀ (n:Nat) (t:T),Pl n t->F_0 (n+1) [.v t,.v t]=some (.v (bT true),[])
 | 0,_,⟨v,rfl,h⟩=>zCN _ v h
 | n+1,_,.inl ⟨v,rfl,h⟩=>zCN _ v h
 | n+1,_,.inr ⟨ts,rfl,hl,h⟩=>zEX _ ts hl fun x hx=>zDl n x (h x hx)
theorem alike12(t:T)(h:Pl (fuel_0 - 1) t):F_0 fuel_0 [.v t,.v t]=some (.v (.a (.bl true)),[]):=zDl (fuel_0 - 1) t h
theorem forD_step{tg:En->T->Option En}{b:DS}{t:T}{r:List T}{Γ Γ1 Γ2:En}(h1:tg Γ t=some Γ1)(h2:b Γ1=some (.nx Γ2)):forD tg b (t::r) Γ=forD tg b r Γ2:=by
 rw[zBR,h1,Option.bind_some,h2,Option.bind_some]
theorem zAf{tg:En->T->Option En}{de:DE}{t t':T}{r ts:List T}{Γ Γ1 Γ2 Γ3:En}(h1:tg Γ t=some Γ1)(h2:de Γ1=some (.v t',Γ2))(h3:compD tg dYes de r Γ2=some (ts,Γ3)):compD tg dYes de (t::r) Γ=some (t'::ts,Γ3):=by
 rw[zA8,h1,Option.bind_some,dYes_ap,Option.bind_some,if_pos rfl,h2,Option.bind_some,zJr,Option.bind_some,h3]
 rfl
theorem zCI{n qs:Nat}:∀ {ss:List T},StepsOk n qs ss->∃ st:List Stp,ss=st.map stT/\StOk n qs st
 | [],_=>⟨[],rfl,fun s hs=>nomatch hs⟩
 | s::r,h=>by
  obtain⟨q,y,z,h1,h2,h3,e⟩:=h s List.mem_cons_self
  obtain⟨st,e2,h4⟩:=zCI (ss:=r) fun x hx=>h x (List.mem_cons_of_mem _ hx)
  exact⟨(q,y,z)::st,by rw[e,e2]; rfl,fun x hx=>(List.mem_cons.mp hx).elim (fun z=>z ▸ ⟨h1,h2,h3⟩) (h4 x)⟩
abbrev danT(n qs:Nat)(st:List Stp):T:=.t [iT (n:Int),iT (qs:Int),.t (st.map stT)]
theorem zHX(a b:Int)(n qs m:Nat)(hn:n<=5)(h0:0 < qs)(hq:qs<=10)(hm:m<=500):∃ st a' b',StOk n qs st/\st.length<=m/\F_8 [.l [iT a,iT b],.v (iT (n:Int)),.v (iT (qs:Int)),.v (iT (m:Int))]=some (.v (danT n qs st),[iT a',iT b']):=by
 obtain⟨ss,a',b',h1,h2,e⟩:=zG7 a b n qs m hn h0 hq hm
 obtain⟨st,rfl,h3⟩:=zCI h1
 exact⟨st,a',b',h3,by simpa using h2,e⟩
theorem zAb(x y:Str):(x++y).cps.toList=x.cps.toList++y.cps.toList:=by
 show (x.cps++y.cps).toList=_
 simp
theorem zBb{x y:Str}(h:x.cps.toList=y.cps.toList):x=y:=by
 obtain⟨⟨a⟩⟩:=x
 obtain⟨⟨b⟩⟩:=y
 simp only at h
 rw[h]
theorem zAw(c:Nat)(x y:Str)(r:List Str):(Str.join ⟨#[c]⟩ (x::y::r)).cps.toList=x.cps.toList++c::(Str.join ⟨#[c]⟩ (y::r)).cps.toList:=by
 show (x++⟨#[c]⟩++Str.join ⟨#[c]⟩ (y::r)).cps.toList=_
 rw[zAb,zAb]
 simp
def numS(k:Nat):Str:=Str.ofString (toString (k:Int))
theorem zBa(k:Nat)(h:k < 10):numS k=oneC (48+k):=(show ∀ k:Fin 10,numS k.1=oneC (48+k.1) by decide +kernel) ⟨k,h⟩
theorem num_len(k:Nat)(h:k < 11):(numS k).length<=2:=(show ∀ k:Fin 11,(numS k.1).length<=2 by decide +kernel) ⟨k,h⟩
theorem zCf(k:Nat)(h:k < 11):∀ c∈(numS k).cps.toList,48<=c/\c < 58:=(show ∀ k:Fin 11,∀ c∈(numS k.1).cps.toList,48<=c/\c < 58 by decide +kernel) ⟨k,h⟩
theorem num_int(k:Nat)(h:k < 11):figs.lookup (numS k)=some (k:Int):=(show ∀ k:Fin 11,figs.lookup (numS k.1)=some (k.1:Int) by decide +kernel) ⟨k,h⟩
theorem num_show(k:Nat)(h:k < 1000)(Γ:En):strS Γ [.v (.a (.int (k:Int)))]=some (.v (.a (.str (numS k)))):=by
 rw[strS_i,if_pos]
 ·rfl
 ·have:(k:Int).natAbs=k:=by omega
  rw[this]
  by_cases z:k=0
  ·rw[z]; decide
  ·exact Nat.lt_trans ((Nat.log2_lt z).mpr (Nat.lt_trans h (by decide:1000 < 2 ^ 10))) (by decide)
theorem zBC:∀ ys:List Str,strsOf (strsT ys)=some ys
 | []=>rfl
 | y::r=>by
  show (strsOf (.a (.str y)::strsT r))=_
  rw[zEO,zBC r]; rfl
def rowS(t:List Nat):Str:=Txt.join "" (t.map numS)
theorem zGN(x:Str):x++("":Str)=x:=zBb (by rw[zAb]; show x.cps.toList++[]=_; simp)
theorem row_cps:∀ t:List Nat,(∀ k∈t,k < 10)->(rowS t).cps.toList=t.map (48+·)
 | [],_=>rfl
 | [k],h=>by
  show (numS k).cps.toList=_
  rw[zBa k (h k List.mem_cons_self)]; rfl
 | k::j::r,h=>by
  have ih:=row_cps (j::r) fun x hx=>h x (List.mem_cons_of_mem _ hx)
  unfold rowS at ih ⊢
  rw[show ∀ ys,Txt.join "" ys=Str.join "" ys from fun ys=>StrLaws.glued_eq_join _ _]at ih ⊢
  show (numS k++""++Str.join "" ((j::r).map numS)).cps.toList=_
  rw[zAb,zGN,ih,zBa k (h k List.mem_cons_self)]; rfl
theorem zEh:∀ t:List Nat,(∀ k∈t,k < 10)->((t.map numS).map (·.length)).sum=t.length
 | [],_=>rfl
 | k::r,h=>by
  have:=zEh r fun x hx=>h x (List.mem_cons_of_mem _ hx)
  rw[List.map_cons,List.map_cons,List.sum_cons,this,zBa k (h k List.mem_cons_self),List.length_cons]
  show 1+r.length=_
  omega
theorem zDh{de:DE}(hde:∀ Γ:En,de Γ=dCB strS (jW (jV 0) qQ) Γ):∀ (t:List Nat) (o:Option G),(∀ k∈t,k < 10)->∃ o',compD (gdName 0) dYes de (tvT t) [o]=some (strsT (t.map numS),[o'])
 | [],o,_=>⟨o,rfl⟩
 | k::r,o,h=>by
  obtain⟨o',e⟩:=zDh hde r (some (.v (iT (k:Int)))) fun x hx=>h x (List.mem_cons_of_mem _ hx)
  refine⟨o',?_⟩
  have s1:=fun Γ=>num_show k (by have:=h k List.mem_cons_self; omega) Γ
  exact zAf (Γ1:=[some (.v (iT (k:Int)))]) rfl (by rw[hde]; simp only[iT]; simp[s1,-strS_i]) e
theorem zHp(t:List Nat)(h:∀ k∈t,k < 10)(hl:t.length<=1000)(Γ:En):joinS Γ [.v (.a (.str "")),.l (strsT (t.map numS))]=some (.v (.a (.str (rowS t)))):=by
 show ((strsOf (strsT (t.map numS))).bind fun ys=>if (ys.map (·.length)).sum+ys.length * ("":Str).length<=16777216 then some (S.v (.a (.str (Txt.join "" ys)))) else none)=_
 rw[zBC,Option.bind_some,if_pos]
 ·rfl
 ·rw[zEh t h]; show t.length+_ * 0<=_; omega
theorem l_row_ok(t:List Nat)(h:∀ k∈t,k < 10)(hl:t.length<=1000):F_2 [.v (tuT t)]=some (.v (.a (.str (rowS t))),[]):=by
 obtain⟨o',e⟩:=zDh (de:=zGe) (fun _=>rfl) t none h
 have j:=fun Γ=>zHp t h hl Γ
 have gl:(tvT t).length<=sizeLine:=line_big (by simp; omega)
 have gl2:(strsT (t.map numS)).length<=sizeLine:=line_big (by simp[strsT]; omega)
 generalize strsT (t.map numS)=ST at *
 generalize rowS t=RS at *
 simp only[tuT]
 generalize tvT t=TT at *
 simp[F_2,fnD,d_2,e,j,gl,gl2,gd,-zAH]
def headS(n q:Nat):Str:="cups "++numS n++" questions "++numS q
def stepS(s:Stp):Str:=numS s.1++" "++rowS s.2.1++" "++rowS s.2.2
def rowsS(n q:Nat)(st:List Stp):List Str:=headS n q::st.map stepS
def textS(n q:Nat)(st:List Stp):Str:=Txt.join "\n" (rowsS n q st)
theorem row_len(t:List Nat)(h:∀ k∈t,k < 10):(rowS t).length=t.length:=by
 have:=congrArg List.length (row_cps t h)
 rw[List.length_map]at this
 rw[← this]
 show (rowS t).cps.size=_
 simp
theorem isT_small{n:Nat}{t:List Nat}(h:IsT n t)(hn:n<=5):∀ k∈t,k < 10:=fun k hk=>by have:=h.lt k hk; omega
theorem head_len(n q:Nat)(hn:n < 11)(hq:q < 11):(headS n q).length<=20:=by
 unfold headS
 rw[Str.length_append,Str.length_append,Str.length_append]
 have:=num_len n hn
 have:=num_len q hq
 show 5+(numS n).length+11+(numS q).length<=20
 omega
structure StepD(n qs:Nat)(s:Stp):Prop where
 q:s.1 < qs
 y:IsT n s.2.1
 z:IsT n s.2.2
theorem stepD_of{n qs:Nat}{st:List Stp}(h:StOk n qs st){s:Stp}(hs:s∈st):StepD n qs s:=⟨(h s hs).1,(h s hs).2.1,(h s hs).2.2⟩
structure StepL(s:Stp):Prop where
 a:(numS s.1).length<=2
 y:(rowS s.2.1).length<=5
 z:(rowS s.2.2).length<=5
theorem StepD.len{n qs:Nat}{s:Stp}(h:StepD n qs s)(hn:n<=5)(hq:qs<=10):StepL s:=by
 refine⟨num_len _ (by have:=h.q; omega),?_,?_⟩
 ·rw[row_len _ (isT_small h.y hn),h.y.len]; exact hn
 ·rw[row_len _ (isT_small h.z hn),h.z.len]; exact hn
theorem StepL.all{s:Stp}(h:StepL s):(stepS s).length<=14:=by
 unfold stepS
 rw[Str.length_append,Str.length_append,Str.length_append,Str.length_append]
 have:=h.a
 have:=h.y
 have:=h.z
 show (numS s.1).length+1+(rowS s.2.1).length+1+(rowS s.2.2).length<=14
 omega
theorem rows_turn{n qs:Nat}{s:Stp}(h:StepD n qs s)(hn:n<=5)(hq:qs<=10)(o0:Option G)(L:List T)(hL:L.length < 1000):d_3_b1 [o0,some (.l L),some (.v (iT (s.1:Int))),some (.v (tuT s.2.1)),some (.v (tuT s.2.2))]=some (.nx [o0,some (.l (L++[.a (.str (stepS s))])),some (.v (iT (s.1:Int))),some (.v (tuT s.2.1)),some (.v (tuT s.2.2))]):=by
 obtain⟨la,ly,lz⟩:=h.len hn hq
 have e1:=l_row_ok s.2.1 (isT_small h.y hn) (by have:=h.y.len; omega)
 have e2:=l_row_ok s.2.2 (isT_small h.z hn) (by have:=h.z.len; omega)
 have sh:=fun Γ=>num_show s.1 (by have:=h.q; omega) Γ
 have b:(" ":Str).length=1:=rfl
 have g1:(numS s.1).length+(" ":Str).length<=sizeLine:=line_big (by omega)
 have g2:(numS s.1++" ").length+(rowS s.2.1).length<=sizeLine:=line_big (by rw[Str.length_append]; omega)
 have g3:(numS s.1++" "++rowS s.2.1).length+(" ":Str).length<=sizeLine:=line_big (by rw[Str.length_append,Str.length_append]; omega)
 have g4:(numS s.1++" "++rowS s.2.1++" ").length+(rowS s.2.2).length<=sizeLine:=line_big (by rw[Str.length_append,Str.length_append,Str.length_append]; omega)
 have g5:L.length < sizeLine:=line_lt (by omega)
 have g6:L.length<=sizeLine:=Nat.le_of_lt g5
 unfold stepS
 generalize tuT s.2.1=TY at *
 generalize tuT s.2.2=TZ at *
 generalize rowS s.2.1=RY at *
 generalize rowS s.2.2=RZ at *
 generalize numS s.1=NQ at *
 simp only[iT]at *
 simp[d_3_b1,sh,-strS_i,e1,e2,gd,g1,g2,g3,g4,g5,g6,hAppend]
theorem rows_loop{n qs:Nat}(hn:n<=5)(hq:qs<=10)(o0:Option G):∀ (st:List Stp) (L:List T) (o2 o3 o4:Option G),(∀ s∈st,StepD n qs s)->L.length+st.length<=600->∃ o2' o3' o4',forD (gdTup 3 (gdCons (gdName 2) (gdCons (gdName 3) (gdCons (gdName 4) gdNil)))) d_3_b1 (st.map stT) [o0,some (.l L),o2,o3,o4]=some (.nx [o0,some (.l (L++strsT (st.map stepS))),o2',o3',o4'])
 | [],L,o2,o3,o4,_,_=>⟨o2,o3,o4,by rw[List.map_nil,forD_nil]; simp[strsT]⟩
 | s::r,L,o2,o3,o4,h,hl=>by
  simp only[List.length_cons]at hl
  have t:=rows_turn (h s List.mem_cons_self) hn hq o0 L (by omega)
  obtain⟨p2,p3,p4,e⟩:=rows_loop hn hq o0 r (L++[.a (.str (stepS s))]) (some (.v (iT (s.1:Int)))) (some (.v (tuT s.2.1))) (some (.v (tuT s.2.2))) (fun x hx=>h x (List.mem_cons_of_mem _ hx)) (by simp; omega)
  refine⟨p2,p3,p4,?_⟩
  rw[List.map_cons,forD_step (Γ1:=[o0,some (.l L),some (.v (iT (s.1:Int))),some (.v (tuT s.2.1)),some (.v (tuT s.2.2))]) rfl t,e]
  simp[strsT]
theorem dance_rows_ok{n q:Nat}(hn:n<=5)(hq:q<=10)(st:List Stp)(h:StOk n q st)(hl:st.length<=500):F_3 [.v (danT n q st)]=some (.l (strsT (rowsS n q st)),[]):=by
 obtain⟨o2,o3,o4,e⟩:=rows_loop hn hq (some (.v (danT n q st))) st [.a (.str (headS n q))] none none none (fun s hs=>stepD_of h hs) (by simp; omega)
 have s1:=fun Γ=>num_show n (by omega) Γ
 have s2:=fun Γ=>num_show q (by omega) Γ
 have l1:=num_len n (by omega)
 have l2:=num_len q (by omega)
 have c1:("cups ":Str).length=5:=rfl
 have c2:(" questions ":Str).length=11:=rfl
 have g1:("cups ":Str).length+(numS n).length<=sizeLine:=line_big (by omega)
 have g2:("cups "++numS n:Str).length+(" questions ":Str).length<=sizeLine:=line_big (by rw[Str.length_append]; omega)
 have g3:("cups "++numS n++" questions ":Str).length+(numS q).length<=sizeLine:=line_big (by rw[Str.length_append,Str.length_append]; omega)
 have g0:(1:Nat)<=sizeLine:=by decide
 have gs:(st.map stT).length<=sizeLine:=line_big (by simp; omega)
 have er:strsT (rowsS n q st)=[T.a (.str (headS n q))]++strsT (st.map stepS):=rfl
 rw[er]
 unfold headS at *
 simp only[danT]at *
 generalize strsT (st.map stepS)=SR at *
 generalize st.map stT=ST at *
 generalize numS n=NN at *
 generalize numS q=NQ at *
 simp only[iT]at *
 simp[F_3,fnD,d_3,s1,s2,-strS_i,gd,g0,g1,g2,g3,gs,e]
theorem rows_sum{n qs:Nat}(hn:n<=5)(hq:qs<=10):∀ (st:List Stp),(∀ s∈st,StepD n qs s)->((st.map stepS).map (·.length)).sum<=14 * st.length
 | [],_=>Nat.le_refl _
 | s::r,h=>by
  have:=rows_sum hn hq r fun x hx=>h x (List.mem_cons_of_mem _ hx)
  have:=((h s List.mem_cons_self).len hn hq).all
  simp only[List.map_cons,List.sum_cons,List.length_cons]
  omega
theorem text_join{n q:Nat}(hn:n<=5)(hq:q<=10)(st:List Stp)(h:StOk n q st)(hl:st.length<=500)(Γ:En):joinS Γ [.v (.a (.str "\n")),.l (strsT (rowsS n q st))]=some (.v (.a (.str (textS n q st)))):=by
 show ((strsOf (strsT (rowsS n q st))).bind fun ys=>if (ys.map (·.length)).sum+ys.length * ("\n" : Str).length ≤ 16777216 then some (S.v (.a (.str (Txt.join "\n" ys)))) else none)=_
 rw[zBC,Option.bind_some,if_pos]
 ·rfl
 ·have a:=rows_sum hn hq st fun s hs=>stepD_of h hs
  have b:=head_len n q (by omega) (by omega)
  show (headS n q).length+((st.map stepS).map (·.length)).sum+((st.map stepS).length+1) * 1<=_
  rw[List.length_map]
  omega
theorem zBA{de:DE}(hde:∀ Γ:En,de Γ=dCB strS (jW (jV 0) qQ) Γ):∀ (m k:Nat) (o:Option G),k+m<=1000->∃ o',compD (gdName 0) dYes de (rngT (k:Int) m) [o]=some (strsT ((List.range' k m).map numS),[o'])
 | 0,k,o,_=>⟨o,rfl⟩
 | m+1,k,o,h=>by
  obtain⟨o',e⟩:=zBA hde m (k+1) (some (.v (iT (k:Int)))) (by omega)
  refine⟨o',?_⟩
  have s1:=fun Γ=>num_show k (by omega) Γ
  have er:rngT (k:Int) (m+1)=iT (k:Int)::rngT ((k+1:Nat):Int) m:=by
   unfold rngT
   rw[List.range_succ_eq_map,List.map_cons,List.map_map]
   have hd:T.a (.int ((k:Int)+((0:Nat):Int)))=iT (k:Int):=by simp[iT]
   have tl:(List.range m).map ((fun i:Nat=>T.a (.int ((k:Int)+(i:Int)))) ∘ Nat.succ)=(List.range m).map fun i:Nat=>T.a (.int (((k+1:Nat):Int)+(i:Int))):=List.map_congr_left fun i _=>by
    have z:(k:Int)+((Nat.succ i:Nat):Int)=((k+1:Nat):Int)+(i:Int):=by omega
    show T.a (.int ((k:Int)+((Nat.succ i:Nat):Int)))=_
    rw[z]
   exact List.cons_eq_cons.mpr ⟨hd,tl⟩
  rw[er,List.range'_succ,List.map_cons]
  exact zAf (Γ1:=[some (.v (iT (k:Int)))]) rfl (by rw[hde]; simp only[iT]; simp[s1,-strS_i]) e
theorem zA2:∀ ys:List Str,atomsOf (strsT ys)=some (strsV ys)
 | []=>rfl
 | y::r=>by
  show (atomsOf (.a (.str y)::strsT r))=_
  have:=zA2 r
  simp only[atomsOf,this]; rfl
theorem not_in(Γ:En)(x:Str)(ys:List Str)(h:x∈ys):inS true Γ (.v (.a (.str x))) (.l (strsT ys))=some (.v (.a (.bl false))):=by
 have h1:(strsV ys).all flatV=true:=by
  simp[strsV,flatV]
 have h2:inV (.str x) (strsV ys)=true:=by
  unfold inV
  rw[List.any_eq_true]
  exact⟨.str x,List.mem_map.mpr ⟨x,h,rfl⟩,by simp[eqV]⟩
 show ((seqS Γ (.l (strsT ys))).bind fun xs=>(atomsOf xs).bind fun vs=>if flatV (.str x)=true/\vs.all flatV=true then some (mkB (if true then !inV (.str x) vs else inV (.str x) vs)) else none)=_
 rw[show seqS Γ (.l (strsT ys))=some (strsT ys) from rfl,Option.bind_some,zA2,Option.bind_some,if_pos ⟨rfl,h1⟩,h2]
 rfl
theorem rng2_ok{f g:DE}{Γ:En}{a b:Nat}(h1:f Γ=some (.v (iT (a:Int)),Γ))(h2:g Γ=some (.v (iT (b:Int)),Γ))(ha:a<=100000)(hb:b<=100000):dRng2 (jW f (jW g qQ)) Γ=some ((rngT (a:Int) (b - a),[]),Γ):=by
 have e:jW f (jW g qQ) Γ=some ([.v (iT (a:Int)),.v (iT (b:Int))],Γ):=by unfold jW; rw[h1,Option.bind_some]; dsimp only; rw[h2]; rfl
 unfold dRng2
 rw[e,Option.bind_some]
 dsimp only[iT]
 have c:(inR 4611686018427387903 (a:Int) && inR 4611686018427387903 (b:Int) && Nat.ble ((b:Int) - (a:Int)).toNat sizeLine)=true:=by
  have:=zGG a b ha hb
  unfold rngS at this
  dsimp only at this
  split at this
  ·assumption
  ·cases this
 rw[if_pos c,show ((b:Int) - (a:Int)).toNat=b - a by omega]
theorem is_in(Γ:En)(x:Str)(ys:List Str)(h:x∉ys):inS true Γ (.v (.a (.str x))) (.l (strsT ys))=some (.v (.a (.bl true))):=by
 have h1:(strsV ys).all flatV=true:=by
  simp[strsV,flatV]
 have h2:inV (.str x) (strsV ys)=false:=by
  unfold inV
  rw[List.any_eq_false]
  intro v hv
  obtain⟨y,hy,rfl⟩:=List.mem_map.mp hv
  have:y≠x:=fun z=>h (z ▸ hy)
  simp[eqV,this,Ne.symm this]
 show ((seqS Γ (.l (strsT ys))).bind fun xs=>(atomsOf xs).bind fun vs=>if flatV (.str x)=true/\vs.all flatV=true then some (mkB (if true then !inV (.str x) vs else inV (.str x) vs)) else none)=_
 rw[show seqS Γ (.l (strsT ys))=some (strsT ys) from rfl,Option.bind_some,zA2,Option.bind_some,if_pos ⟨rfl,h1⟩,h2]
 rfl
def numIn(a b:Nat)(w:Str):Option Nat:=(List.range' a (b - a)).find? fun k=>decide (numS k=w)
theorem numIn_some{a b k:Nat}{w:Str}(h:numIn a b w=some k):a<=k/\k < b/\w=numS k:=by
 unfold numIn at h
 have h1:=List.find?_some h
 have h2:=List.mem_of_find?_eq_some h
 rw[List.mem_range'_1]at h2
 simp at h1
 exact⟨h2.1,by omega,h1.symm⟩
theorem numIn_none{a b:Nat}{w:Str}(h:numIn a b w=none):w∉(List.range' a (b - a)).map numS:=by
 unfold numIn at h
 rw[List.find?_eq_none]at h
 intro hw
 obtain⟨k,hk,e⟩:=List.mem_map.mp hw
 exact h k hk (by simpa using e)
theorem numIn_mem{a b k:Nat}{w:Str}(h:numIn a b w=some k):w∈(List.range' a (b - a)).map numS:=by
 obtain⟨h1,h2,rfl⟩:=numIn_some h
 exact List.mem_map.mpr ⟨k,by rw[List.mem_range'_1]; omega,rfl⟩
@[simp] abbrev badT(r:Nat):T:=.x "BadText" [("row",.int (r:Int))]
def numT(r:Nat):Option Nat->T
 | some k=>iT (k:Int)
 | none=>badT r
theorem zAd(w:Str)(a b r:Nat)(ha:a<=11)(hb:b<=11):F_14 [.v (.a (.str w)),.v (iT (a:Int)),.v (iT (b:Int)),.v (iT (r:Int))]=some (.v (numT r (numIn a b w)),[]):=by
 obtain⟨o',e⟩:=zBA (de:=d_14_e1) (fun _=>rfl) (b - a) a none (by omega)
 have r1:=rng2_ok (f:=jV 1) (g:=jV 2) (Γ:=[some (.v (.a (.str w))),some (.v (iT (a:Int))),some (.v (iT (b:Int))),some (.v (iT (r:Int)))]) (a:=a) (b:=b) rfl rfl (by omega) (by omega)
 have gl:(strsT ((List.range' a (b - a)).map numS)).length<=sizeLine:=line_big (by simp[strsT]; omega)
 cases h:numIn a b w with
 | some k =>
  obtain⟨h1,h2,hw⟩:=numIn_some h
  have ni:=fun Γ=>not_in Γ w _ (numIn_mem h)
  have it:=num_int k (by omega)
  rw[← hw]at it
  generalize strsT ((List.range' a (b - a)).map numS)=ST at *
  generalize rngT (a:Int) (b - a)=RG at *
  simp only[iT]at *
  simp[F_14,fnD,d_14,r1,e,ni,it,gd,gl,numT]
 | none =>
  have ni:=fun Γ=>is_in Γ w _ (numIn_none h)
  generalize strsT ((List.range' a (b - a)).map numS)=ST at *
  generalize rngT (a:Int) (b - a)=RG at *
  simp only[iT]at *
  simp[F_14,fnD,d_14,r1,e,ni,gd,gl,numT,zAT,atomsS]
theorem zBT:∀ (t:List Nat) (o:Option G),(∀ k∈t,k < 10)->∃ o',compD (gdName 0) dYes d_16_e1 (t.map fun k=>T.a (.str (oneC (48+k)))) [o]=some (tvT t,[o'])
 | [],o,_=>⟨o,rfl⟩
 | k::r,o,h=>by
  have hk:=h k List.mem_cons_self
  obtain⟨o',e⟩:=zBT r (some (.v (.a (.str (oneC (48+k)))))) fun x hx=>h x (List.mem_cons_of_mem _ hx)
  have it:=num_int k (by omega)
  rw[zBa k hk]at it
  refine⟨o',?_⟩
  rw[List.map_cons]
  refine zAf (Γ1:=[some (.v (.a (.str (oneC (48+k)))))]) rfl ?_ e
  generalize oneC (48+k)=OC at *
  simp[d_16_e1,it]
theorem zEt(t:List Nat)(h:∀ k∈t,k < 10):sgnT (rowS t)=t.map fun k=>T.a (.str (oneC (48+k))):=by
 unfold sgnT
 rw[row_cps t h,List.map_map]
 rfl
theorem zCr(t:List Nat)(h:∀ k∈t,k < 10):(rowS t).cps.all (· < 128)=true:=by
 rw[← Array.all_toList,row_cps t h,List.all_map,List.all_eq_true]
 intro k hk
 have:=h k hk
 simp
 omega
theorem zIi(t:List Nat)(h:∀ k∈t,k < 10)(hl:t.length<=100):F_16 [.v (.a (.str (rowS t)))]=some (.v (tuT t),[]):=by
 obtain⟨o',e⟩:=zBT t none h
 rw[← zEt t h]at e
 have ha:=zCr t h
 have hz:(rowS t).length<=sizeLine:=line_big (by rw[row_len t h]; omega)
 have gl:(tvT t).length<=sizeLine:=line_big (by simp; omega)
 have di:∀ Γ':En,dStrI (jV 0) (some (.v (.a (.str (rowS t))))::Γ')=some ((sgnT (rowS t),[]),some (.v (.a (.str (rowS t))))::Γ'):=fun Γ'=>by
  show (if (rowS t).cps.all (· < 128)=true/\(rowS t).length<=sizeLine then some ((sgnT (rowS t),[]),some (.v (.a (.str (rowS t))))::Γ') else none)=_
  rw[if_pos ⟨ha,hz⟩]
 simp only[tuT]
 generalize sgnT (rowS t)=SG at *
 generalize rowS t=RS at *
 generalize tvT t=TT at *
 simp[F_16,fnD,d_16,-zDX,di,e,gd,gl]
def figL(n:Nat):List Str:=(List.range n).map fun i=>oneC (48+i)
theorem zCl(n:Nat)(h3:3<=n)(hn:n<=5):sgnS (sliceT "01234" none (some (n:Int)))=figL n/\(sliceT "01234" none (some (n:Int))).length<=5:=by
 have:n=3\/n=4\/n=5:=by omega
 rcases this with rfl | rfl | rfl <;> exact⟨by decide +kernel,by decide +kernel⟩
theorem zCm:∀ ys:List Str,toDs (strsT ys)=some (ys.map PyData.str)
 | []=>by simp[strsT,toDs]
 | y::r=>by
  have:=zCm r
  simp only[strsT]at this
  simp[strsT,toDs,toD,toDa,this]
theorem zCU:∀ cs:List Nat,(∀ c∈cs,c < 128)->PyData.canLayAll0 ((cs.map oneC).map PyData.str)=true
 | [],_=>rfl
 | c::r,h=>by
  have ih:=zCU r fun z hz=>h z (List.mem_cons_of_mem _ hz)
  have hc:=h c List.mem_cons_self
  have hy:PyData.canLay0 (.str (oneC c))=true:=by
   show (#[c]:Array Nat).all (· < 0x110000)=true
   simp; omega
  rw[List.map_cons,List.map_cons]
  simp only[PyData.canLayAll0,hy,ih,Bool.and_self]
theorem zB2:∀ ys:List Str,PyData.depthAll (ys.map PyData.str)=0
 | []=>rfl
 | y::r=>by
  have ih:=zB2 r
  rw[List.map_cons]
  simp[PyData.depthAll,ih,PyData.depth]
theorem zHG{a b:Nat}(h:oneC a=oneC b):a=b:=by
 have:=congrArg (fun s:Str=>s.cps.toList) h
 simpa [oneC] using this
theorem zEz:∀ a b:List Nat,PyData.eqvAll ((a.map oneC).map PyData.str) ((b.map oneC).map PyData.str)=decide (a=b)
 | [],[]=>rfl
 | [],y::s=>by simp[PyData.eqvAll]
 | x::r,[]=>by simp[PyData.eqvAll]
 | x::r,y::s=>by
  have ih:=zEz r s
  rw[List.map_cons,List.map_cons,List.map_cons,List.map_cons]
  have e1:PyData.eqv (.str (oneC x)) (.str (oneC y))=decide (x=y):=by
   show (oneC x == oneC y)=_
   by_cases h:x=y
   ·subst h; simp
   ·have:oneC x≠oneC y:=fun z=>h (zHG z)
    simp[h,this]
  simp only[PyData.eqvAll,e1,ih]
  by_cases h:x=y <;> simp[h]
theorem zEr(Γ:En)(a b:List Nat)(ha:∀ c∈a,c < 128)(hb:∀ c∈b,c < 128):eqS Γ (.l (strsT (a.map oneC))) (.l (strsT (b.map oneC)))=some (.v (.a (.bl (decide (a=b))))):=by
 have e0:∀ a:List Nat,datS Γ (.l (strsT (a.map oneC)))=some (.list ((a.map oneC).map PyData.str)):=fun a=>by
  show ((sqlOf Γ (.l (strsT (a.map oneC)))).bind fun xs=>(toDs xs).map PyData.list)=_
  rw[show sqlOf Γ (.l (strsT (a.map oneC)))=some (strsT (a.map oneC)) from rfl,Option.bind_some,zCm]
  rfl
 show (cmpD PyData.eqv Γ (.l (strsT (a.map oneC))) (.l (strsT (b.map oneC))))=_
 unfold cmpD
 rw[e0,e0,Option.bind_some,Option.bind_some,if_pos]
 ·show some (mkB (PyData.eqvAll _ _))=_
  rw[zEz]; rfl
 ·refine⟨zCU a ha,zCU b hb,?_⟩
  show min (PyData.depthAll _+1) (PyData.depthAll _+1)<=100
  rw[zB2,zB2]; decide
def figN(n:Nat):List Nat:=(List.range n).map (48+·)
theorem zFt(n:Nat):figL n=(figN n).map oneC:=by simp[figL,figN]
def turnIn(n:Nat)(w:Str):Option (List Nat):=if sortN w.cps.toList=figN n then some (w.cps.toList.map (· - 48)) else none
theorem zCR(cs:List Nat):(sortN cs).Perm cs:=by
 have:=(zA5 (cs.map fun (c:Nat)=>(c:Int))).map Int.toNat
 rw[List.map_map]at this
 have e:(Int.toNat ∘ fun (c:Nat)=>(c:Int))=id:=funext fun _=>rfl
 rw[e,List.map_id]at this
 exact this
theorem zAX{n:Nat}{w:Str}{t:List Nat}(hn:n<=5)(h:turnIn n w=some t):w=rowS t/\(∀ k∈t,k < 10)/\t.length=n:=by
 unfold turnIn at h
 split at h
 ·rename_i hs
  cases h
  have p:=zCR w.cps.toList
  rw[hs]at p
  have hm:∀ c∈w.cps.toList,48<=c/\c < 58:=fun c hc=>by
   obtain⟨i,hi,rfl⟩:=List.mem_map.mp (p.mem_iff.mpr hc)
   have:=List.mem_range.mp hi
   omega
  have hk:∀ k∈w.cps.toList.map (· - 48),k < 10:=fun k hk=>by
   obtain⟨c,hc,rfl⟩:=List.mem_map.mp hk
   have:=hm c hc
   omega
  refine⟨zBb ?_,hk,?_⟩
  ·rw[row_cps _ hk,List.map_map]
   refine ((List.map_congr_left fun c hc=>?_).trans (List.map_id _)).symm
   have:=hm c hc
   show 48+(c - 48)=c
   omega
  ·rw[List.length_map,← p.length_eq]; simp[figN]
 ·cases h
def AscW(w:Str):Prop:=(∀ c∈w.cps.toList,c < 128)/\w.length < 64
theorem zDm{w:Str}(h:AscW w):∀ c∈sortN w.cps.toList,c < 128:=fun c hc=>h.1 c ((zCR _).mem_iff.mp hc)
theorem zEg(n:Nat)(hn:n<=5):∀ c∈figN n,c < 128:=fun c hc=>by
 obtain⟨i,hi,rfl⟩:=List.mem_map.mp hc
 have:=List.mem_range.mp hi
 omega
theorem zDG(n:Nat)(w:Str):(turnIn n w).isSome=decide (sortN w.cps.toList=figN n):=by
 unfold turnIn
 by_cases h:sortN w.cps.toList=figN n <;> simp[h]
theorem zFf(w:Str)(n:Nat)(h:AscW w)(h3:3<=n)(hn:n<=5):F_17 [.v (.a (.str w)),.v (iT (n:Int))]=some (.v (.a (.bl (turnIn n w).isSome)),[]):=by
 rw[zDG]
 have s1:∀ Γ,sortXS Γ [.v (.a (.str w))]=some (.l (strsT ((sortN w.cps.toList).map oneC))):=fun Γ=>by
  rw[zBw,if_pos h.2]
 obtain⟨f1,f2⟩:=zCl n h3 hn
 have l1:∀ Γ,listTS Γ [.v (.a (.str (sliceT "01234" none (some (n:Int)))))]=some (.l (strsT ((figN n).map oneC))):=fun Γ=>by
  rw[zAu,if_pos (line_big (by omega)),f1,zFt]
 have gz:(sliceT "01234" none (some (n:Int))).length<=sizeLine:=line_big (by omega)
 have q:=fun Γ=>zEr Γ _ _ (zDm h) (zEg n hn)
 have sl:∀ a:Option G,dSlT (dK c_FIGURES) dNoPart (dPart (jV 1)) [a,some (.v (iT (n:Int)))]=some (.v (.a (.str (sliceT "01234" none (some (n:Int))))),[a,some (.v (iT (n:Int)))]):=fun a=>by
  show (if (sliceT "01234" none (some (n:Int))).length<=sizeLine then some (S.v (.a (.str (sliceT "01234" none (some (n:Int))))),[a,some (G.v (iT (n:Int)))]) else none)=_
  rw[if_pos gz]
 generalize decide (sortN w.cps.toList=figN n)=BB at *
 generalize strsT ((figN n).map oneC)=FL at *
 generalize strsT ((sortN w.cps.toList).map oneC)=SO at *
 generalize sliceT "01234" none (some (n:Int))=SL at *
 simp only[iT]at *
 simp[F_17,fnD,d_17,-zBw,-zAu,-zEm,s1,sl,l1,q]
theorem zBH(w:Str)(n:Nat)(h:AscW w)(h3:3<=n)(hn:n<=5):F_23 [.v (iT (n:Int)),.v (.a (.str w))]=some (.v (.a (.bl (turnIn n w).isSome)),[]):=by
 rw[zDG]
 have gw:w.length<=sizeLine:=line_big (by have:=h.2; omega)
 have l0:∀ Γ,listTS Γ [.v (.a (.str w))]=some (.l (strsT (w.cps.toList.map oneC))):=fun Γ=>by
  rw[zAu,if_pos gw]; rfl
 have s1:∀ Γ,sortLS Γ [.l (strsT (w.cps.toList.map oneC))]=some (.l (strsT ((sortN w.cps.toList).map oneC))):=fun Γ=>by
  rw[zHS,if_pos (by rw[Array.length_toList]; exact h.2)]
 obtain⟨f1,f2⟩:=zCl n h3 hn
 have l1:∀ Γ,listTS Γ [.v (.a (.str (sliceT "01234" none (some (n:Int)))))]=some (.l (strsT ((figN n).map oneC))):=fun Γ=>by
  rw[zAu,if_pos (line_big (by omega)),f1,zFt]
 have gz:(sliceT "01234" none (some (n:Int))).length<=sizeLine:=line_big (by omega)
 have q:=fun Γ=>zEr Γ _ _ (zDm h) (zEg n hn)
 have sl:∀ b:Option G,dSlT (dC (.str "01234")) dNoPart (dPart (jV 0)) [some (.v (iT (n:Int))),b]=some (.v (.a (.str (sliceT "01234" none (some (n:Int))))),[some (.v (iT (n:Int))),b]):=fun a=>by
  show (if (sliceT "01234" none (some (n:Int))).length<=sizeLine then some (S.v (.a (.str (sliceT "01234" none (some (n:Int))))),[some (G.v (iT (n:Int))),a]) else none)=_
  rw[if_pos gz]
 generalize decide (sortN w.cps.toList=figN n)=BB at *
 generalize strsT ((figN n).map oneC)=FL at *
 generalize strsT ((sortN w.cps.toList).map oneC)=SO at *
 generalize strsT (w.cps.toList.map oneC)=S0 at *
 generalize sliceT "01234" none (some (n:Int))=SL at *
 simp only[iT]at *
 simp[F_23,fnD,d_23,-zBw,-zAu,-zEm,l0,s1,sl,l1,q]
def turT(r:Nat):Option (List Nat)->T
 | some t=>tuT t
 | none=>badT r
theorem zAv(w:Str)(n r:Nat)(h:AscW w)(h3:3<=n)(hn:n<=5):F_18 [.v (.a (.str w)),.v (iT (n:Int)),.v (iT (r:Int))]=some (.v (turT r (turnIn n w)),[]):=by
 have e1:=zFf w n h h3 hn
 cases ht:turnIn n w with
 | none =>
  rw[ht]at e1
  simp only[iT,Option.isSome_none]at *
  simp[F_18,fnD,d_18,e1,turT,zAT,atomsS]
 | some t =>
  obtain⟨hw,hk,hl⟩:=zAX hn ht
  have e2:=zIi t hk (by omega)
  rw[← hw]at e2
  rw[ht]at e1
  simp only[turT,tuT]at e2 ⊢
  generalize tvT t=TT at *
  simp only[iT,Option.isSome_some]at *
  simp[F_18,fnD,d_18,e1,e2]
@[simp] theorem zNN{x:List T}:isXs (.v (.t x))=none:=(rfl)
theorem splS{z y:Str}{ws:List Str}(h:Txt.split z y=ws)(h0:(y.length == 0)=false)(h1:z.length<=100000)(h2:ws.length<=100000)(Γ:En):splitS Γ [.v (.a (.str z)),.v (.a (.str y))]=some (.l (strsT ws)):=by
 rw[splitS_s,h,if_pos ⟨h0,line_big h1,line_big h2⟩]
theorem zEF(c:Nat):∀ ps:List Str,ps.length<=(Str.join ⟨#[c]⟩ ps).length+1
 | []=>Nat.zero_le _
 | [x]=>by simp
 | x::y::r=>by
  have ih:=zEF c (y::r)
  have e:=congrArg List.length (zAw c x y r)
  rw[List.length_append,List.length_cons,Array.length_toList,Array.length_toList,Array.length_toList]at e
  have e':(Str.join ⟨#[c]⟩ (x::y::r)).length=x.length+((Str.join ⟨#[c]⟩ (y::r)).length+1):=e
  simp only[List.length_cons]at ih ⊢
  omega
theorem split_len(x:Str)(c:Nat):(Txt.split x ⟨#[c]⟩).length<=x.length+1:=by
 have:=zEF c (Txt.split x ⟨#[c]⟩)
 rw[StrLaws.join_split]at this
 exact this
def headIn(ws:List Str):Option (Nat×Nat):=match ws with
 | [a,b,c,d]=>if a="cups"/\c="questions" then (numIn 3 6 b).bind fun n=>(numIn 1 11 d).map fun q=>(n,q) else none
 | _=>none
def headT:Option (Nat×Nat)->T
 | some p=>.t [iT (p.1:Int),iT (p.2:Int)]
 | none=>badT 0
theorem headIn_ne{ws:List Str}(h:ws.length≠4):headIn ws=none:=by
 unfold headIn
 split
 ·exact absurd rfl h
 ·rfl
theorem read_head_any(x:Str)(hx:x.length<=10000):F_15 [.v (.a (.str x))]=some (.v (headT (headIn (Txt.split x " "))),[]):=by
 have sp:=fun Γ=>splS (rfl:Txt.split x " "=_) rfl (by omega) (by have:(Txt.split x " ").length<=x.length+1:=split_len x 32; omega) Γ
 have hl0:(Txt.split x " ").length<=x.length+1:=split_len x 32
 generalize Txt.split x " "=ws at *
 have g2:(2:Nat)<=sizeLine:=by decide
 have g4:(4:Nat)<=sizeLine:=by decide
 by_cases hl:ws.length=4
 ·obtain⟨a,b,c,d,rfl⟩:∃ a b c d,ws=[a,b,c,d]:=by
   match ws,hl with
   | [a,b,c,d],_=>exact⟨a,b,c,d,rfl⟩
  have e1:F_14 [.v (.a (.str b)),.v (.a (.int 3)),.v (.a (.int 6)),.v (.a (.int 0))]=some (.v (numT 0 (numIn 3 6 b)),[]):=zAd b 3 6 0 (by decide) (by decide)
  have e2:F_14 [.v (.a (.str d)),.v (.a (.int 1)),.v (.a (.int 11)),.v (.a (.int 0))]=some (.v (numT 0 (numIn 1 11 d)),[]):=zAd d 1 11 0 (by decide) (by decide)
  simp only[strsT,List.map_cons,List.map_nil]at sp
  have i0:∀ a b c d:T,atI [a,b,c,d] 0=some a:=fun _ _ _ _=>rfl
  have i1:∀ a b c d:T,atI [a,b,c,d] 1=some b:=fun _ _ _ _=>rfl
  have i2:∀ a b c d:T,atI [a,b,c,d] 2=some c:=fun _ _ _ _=>rfl
  have i3:∀ a b c d:T,atI [a,b,c,d] 3=some d:=fun _ _ _ _=>rfl
  by_cases h1:a="cups"
  ·by_cases h2:c="questions"
   ·cases hn:numIn 3 6 b with
    | none =>
     rw[hn]at e1
     have hh:headIn [a,b,c,d]=none:=by simp[headIn,h1,h2,hn]
     rw[hh]
     simp only[numT]at e1
     simp[F_15,fnD,d_15,-splitS_s,sp,i0,i1,i2,i3,h1,h2,e1,gd,g2,g4,headT]
    | some n =>
     rw[hn]at e1
     simp only[numT]at e1
     cases hq:numIn 1 11 d with
     | none =>
      rw[hq]at e2
      have hh:headIn [a,b,c,d]=none:=by simp[headIn,h1,h2,hn,hq]
      rw[hh]
      simp only[numT]at e2
      simp[F_15,fnD,d_15,-splitS_s,sp,i0,i1,i2,i3,h1,h2,e1,e2,gd,g2,g4,headT]
     | some q =>
      rw[hq]at e2
      have hh:headIn [a,b,c,d]=some (n,q):=by simp[headIn,h1,h2,hn,hq]
      rw[hh]
      simp only[numT]at e2
      simp[F_15,fnD,d_15,-splitS_s,sp,i0,i1,i2,i3,h1,h2,e1,e2,gd,g2,g4,headT]
   ·have hh:headIn [a,b,c,d]=none:=by simp[headIn,h2]
    rw[hh]
    simp[F_15,fnD,d_15,-splitS_s,sp,i0,i1,i2,i3,h1,h2,gd,g2,g4,headT,zAT,atomsS]
  ·have hh:headIn [a,b,c,d]=none:=by simp[headIn,h1]
   rw[hh]
   simp[F_15,fnD,d_15,-splitS_s,sp,i0,i1,i2,i3,h1,gd,g2,g4,headT,zAT,atomsS]
 ·rw[headIn_ne hl]
  have gl:(strsT ws).length<=sizeLine:=line_big (by simp[strsT]; omega)
  have hl':¬ (((strsT ws).length:Int)=4):=by simp[strsT]; omega
  generalize strsT ws=WS at *
  simp[F_15,fnD,d_15,-splitS_s,sp,hl',gd,gl,headT,zAT,atomsS]
def stepIn(n q:Nat)(ws:List Str):Option Stp:=match ws with
 | [a,b,c]=>(numIn 0 q a).bind fun k=>(turnIn n b).bind fun y=>(turnIn n c).map fun z=>(k,y,z)
 | _=>none
def stepT(r:Nat):Option Stp->T
 | some s=>stT s
 | none=>badT r
theorem zC5{n q:Nat}{ws:List Str}(h:ws.length≠3):stepIn n q ws=none:=by
 unfold stepIn
 split
 ·exact absurd rfl h
 ·rfl
theorem read_step_any(x:Str)(n q r:Nat)(hx:x.length<=10000)(h3:3<=n)(hn:n<=5)(hq:q<=10)(hw:∀ w∈Txt.split x " ",AscW w):F_19 [.v (.a (.str x)),.v (.t [iT (n:Int),iT (q:Int)]),.v (iT (r:Int))]=some (.v (stepT r (stepIn n q (Txt.split x " "))),[]):=by
 have sp:=fun Γ=>splS (rfl:Txt.split x " "=_) rfl (by omega) (by have:(Txt.split x " ").length<=x.length+1:=split_len x 32; omega) Γ
 have hl0:(Txt.split x " ").length<=x.length+1:=split_len x 32
 generalize Txt.split x " "=ws at *
 have g3:(3:Nat)<=sizeLine:=by decide
 by_cases hl:ws.length=3
 ·obtain⟨a,b,c,rfl⟩:∃ a b c,ws=[a,b,c]:=by
   match ws,hl with
   | [a,b,c],_=>exact⟨a,b,c,rfl⟩
  have e0:F_14 [.v (.a (.str a)),.v (.a (.int 0)),.v (iT (q:Int)),.v (iT (r:Int))]=some (.v (numT r (numIn 0 q a)),[]):=zAd a 0 q r (by decide) (by omega)
  have e1:=zAv b n r (hw b (by simp)) h3 hn
  have e2:=zAv c n r (hw c (by simp)) h3 hn
  simp only[strsT,List.map_cons,List.map_nil]at sp
  have i0:∀ a b c:T,atI [a,b,c] 0=some a:=fun _ _ _=>rfl
  have i1:∀ a b c:T,atI [a,b,c] 1=some b:=fun _ _ _=>rfl
  have i2:∀ a b c:T,atI [a,b,c] 2=some c:=fun _ _ _=>rfl
  have k0:∀ a b:T,atI [a,b] 0=some a:=fun _ _=>rfl
  have k1:∀ a b:T,atI [a,b] 1=some b:=fun _ _=>rfl
  cases ha:numIn 0 q a with
  | none =>
   have hh:stepIn n q [a,b,c]=none:=by simp[stepIn,ha]
   rw[hh]
   rw[ha]at e0
   simp only[iT,numT]at *
   simp[F_19,fnD,d_19,-splitS_s,sp,i0,i1,i2,k0,k1,e0,gd,g3,stepT]
  | some k =>
   rw[ha]at e0
   cases hb:turnIn n b with
   | none =>
    have hh:stepIn n q [a,b,c]=none:=by simp[stepIn,ha,hb]
    rw[hh]
    rw[hb]at e1
    simp only[iT,numT,turT]at *
    simp[F_19,fnD,d_19,-splitS_s,sp,i0,i1,i2,k0,k1,e0,e1,gd,g3,stepT]
   | some y =>
    rw[hb]at e1
    cases hc:turnIn n c with
    | none =>
     have hh:stepIn n q [a,b,c]=none:=by simp[stepIn,ha,hb,hc]
     rw[hh]
     rw[hc]at e2
     simp only[iT,numT,turT,tuT]at *
     generalize tvT y=TY at *
     simp[F_19,fnD,d_19,-splitS_s,sp,i0,i1,i2,k0,k1,e0,e1,e2,gd,g3,stepT]
    | some z =>
     have hh:stepIn n q [a,b,c]=some (k,y,z):=by simp[stepIn,ha,hb,hc]
     rw[hh]
     rw[hc]at e2
     simp only[iT,numT,turT,tuT,stepT,stT]at *
     generalize tvT y=TY at *
     generalize tvT z=TZ at *
     simp[F_19,fnD,d_19,-splitS_s,sp,i0,i1,i2,k0,k1,e0,e1,e2,gd,g3]
 ·rw[zC5 hl]
  have gl:(strsT ws).length<=sizeLine:=line_big (by simp[strsT]; omega)
  have hl':¬ (((strsT ws).length:Int)=3):=by simp[strsT]; omega
  generalize strsT ws=WS at *
  simp[F_19,fnD,d_19,-splitS_s,sp,hl',gd,gl,stepT,zAT,atomsS]
theorem rng_step(k m:Nat):rngT (k:Int) (m+1)=iT (k:Int)::rngT ((k+1:Nat):Int) m:=by
 unfold rngT
 rw[List.range_succ_eq_map,List.map_cons,List.map_map]
 have hd:T.a (.int ((k:Int)+((0:Nat):Int)))=iT (k:Int):=by simp[iT]
 have tl:(List.range m).map ((fun i:Nat=>T.a (.int ((k:Int)+(i:Int)))) ∘ Nat.succ)=(List.range m).map fun i:Nat=>T.a (.int (((k+1:Nat):Int)+(i:Int))):=List.map_congr_left fun i _=>by
  have z:(k:Int)+((Nat.succ i:Nat):Int)=((k+1:Nat):Int)+(i:Int):=by omega
  show T.a (.int ((k:Int)+((Nat.succ i:Nat):Int)))=_
  rw[z]
 exact List.cons_eq_cons.mpr ⟨hd,tl⟩
def stepsIn(n q:Nat):Nat->List Str->Except Nat (List Stp)
 | _,[]=>.ok []
 | k,r::rs=>match stepIn n q (Txt.split r " ") with
  | none=>.error k
  | some s=>match stepsIn n q (k+1) rs with
   | .ok ss=>.ok (s::ss)
   | .error e=>.error e
def danceIn(x:Str):Except Nat (Nat×Nat×List Stp):=match Txt.split x "\n" with
 | []=>.error 0
 | h::rs=>match headIn (Txt.split h " ") with
  | none=>.error 0
  | some p=>match stepsIn p.1 p.2 1 rs with
   | .ok ss=>.ok (p.1,p.2,ss)
   | .error e=>.error e
def dncT:Except Nat (Nat×Nat×List Stp)->T
 | .ok d=>danT d.1 d.2.1 d.2.2
 | .error r=>badT r
theorem stepsIn_len{n q:Nat}:∀ {rs:List Str} {k:Nat} {ss:List Stp},stepsIn n q k rs=.ok ss->ss.length=rs.length
 | [],k,ss,h=>by cases h; rfl
 | r::rs,k,ss,h=>by
  unfold stepsIn at h
  split at h
  ·cases h
  ·split at h
   ·rename_i e
    cases h
    rw[List.length_cons,List.length_cons,stepsIn_len e]
   ·cases h
structure RowW(x:Str):Prop where
 len:x.length<=10000
 w:∀ w∈Txt.split x " ",AscW w
def stepsX(Γ1:En):Except Nat (List Stp)->Except Xv (List T×En)
 | .ok ss=>.ok (ss.map stT,Γ1)
 | .error r=>.error (("BadText",[("row",.int (r:Int))]),Γ1)
theorem read_compX{n q:Nat}(h3:3<=n)(hn:n<=5)(hq:q<=10)(R:List T):∀ (rs:List Str) (k:Nat) (o:Option G),(∀ r∈rs,RowW r)->(∀ (i:Nat) s,rs[i]?=some s->R[k+i]?=some (.a (.str s)))->k+rs.length<=100000->∃ o',compDX (gdName 0) dYes d_20_e1 (rngT (k:Int) rs.length) [o,some (.v (.t [iT (n:Int),iT (q:Int)])),some (.r R)]=some (stepsX [o',some (.v (.t [iT (n:Int),iT (q:Int)])),some (.r R)] (stepsIn n q k rs))
 | [],k,o,_,_,_=>⟨o,rfl⟩
 | s::r,k,o,h,hR,hk'=>by
  simp only[List.length_cons]at hk'
  obtain⟨hl,hw⟩:=h s List.mem_cons_self
  have e1:=read_step_any s n q k hl h3 hn hq hw
  obtain⟨o',e⟩:=read_compX h3 hn hq R r (k+1) (some (.v (iT (k:Int)))) (fun x hx=>h x (List.mem_cons_of_mem _ hx)) (fun i x hi=>by
   have:=hR (i+1) x (by simpa using hi)
   rw[show k+1+i=k+(i+1) by omega]; exact this) (by omega)
  have hk:R[k]?=some (.a (.str s)):=by have:=hR 0 s rfl; simpa using this
  have ed:d_20_e1 [some (.v (iT (k:Int))),some (.v (.t [iT (n:Int),iT (q:Int)])),some (.r R)]=(match stepIn n q (Txt.split s " ") with
    | none=>some (Except.error (("BadText",[("row",.int (k:Int))]),[some (.v (iT (k:Int))),some (.v (.t [iT (n:Int),iT (q:Int)])),some (.r R)]))
    | some s=>some (.ok (.v (stT s),[some (.v (iT (k:Int))),some (.v (.t [iT (n:Int),iT (q:Int)])),some (.r R)]))):=by
   cases hs:stepIn n q (Txt.split s " ") with
   | none =>
    rw[hs]at e1
    simp only[iT,stepT]at *
    simp[d_20_e1,atI_nat',hk,e1]
   | some z =>
    rw[hs]at e1
    simp only[iT,stepT,stT]at *
    generalize tuT z.2.1=TY at *
    generalize tuT z.2.2=TZ at *
    simp[d_20_e1,atI_nat',hk,e1]
  rw[List.length_cons,rng_step]
  unfold compDX
  rw[show gdName 0 [o,some (.v (.t [iT (n:Int),iT (q:Int)])),some (.r R)] (iT (k:Int))=some [some (.v (iT (k:Int))),some (.v (.t [iT (n:Int),iT (q:Int)])),some (.r R)] from rfl,Option.bind_some,dYes_ap,Option.bind_some,if_pos rfl,ed]
  unfold stepsIn
  cases hs:stepIn n q (Txt.split s " ") with
  | none=>exact⟨_,rfl⟩
  | some z =>
   refine⟨o',?_⟩
   simp only[Option.bind_some]
   rw[show (S.v (stT z)).tree=some (stT z) from rfl,Option.bind_some,e]
   cases stepsIn n q (k+1) r <;> rfl
theorem headIn_b{ws:List Str}{n q:Nat}(h:headIn ws=some (n,q)):3<=n/\n<=5/\1<=q/\q<=10:=by
 unfold headIn at h
 split at h
 ·split at h
  ·obtain⟨m,h1,h⟩:=Option.bind_eq_some_iff.mp h
   obtain⟨p,h2,h⟩:=Option.map_eq_some_iff.mp h
   cases h
   obtain⟨a1,a2,_⟩:=numIn_some h1
   obtain⟨b1,b2,_⟩:=numIn_some h2
   omega
  ·cases h
 ·cases h
structure TextW(x:Str):Prop where
 len:x.length<=10000
 rows:∀ r∈Txt.split x "\n",RowW r
 ne:Txt.split x "\n"≠[]
theorem read_dance_any(x:Str)(hx:TextW x):F_20 [.v (.a (.str x))]=some (.v (dncT (danceIn x)),[]):=by
 obtain⟨hxl,hrows,hne⟩:=hx
 have sp:=fun Γ=>splS (rfl:Txt.split x "\n" = _) rfl (by omega) (by have : (Txt.split x "\n").length<=x.length+1:=split_len x 10; omega) Γ
 have hl0:(Txt.split x "\n").length<=x.length+1:=split_len x 10
 unfold danceIn
 generalize Txt.split x "\n"=rows at *
 cases rows with
 | nil=>exact absurd rfl hne
 | cons hd rs =>
  have e1:=read_head_any hd (hrows hd List.mem_cons_self).len
  have i0:atI (strsT (hd::rs)) 0=some (.a (.str hd)):=by rw[show (0:Int)=((0:Nat):Int) from rfl,atI_nat']; rfl
  simp only[List.length_cons]at hl0
  dsimp only
  cases hh:headIn (Txt.split hd " ") with
  | none =>
   rw[hh]at e1
   simp only[headT,iT]at e1
   generalize strsT (hd::rs)=RW at *
   simp[F_20,fnD,d_20,-splitS_s,sp,i0,e1,dncT]
  | some p =>
   obtain⟨n,q⟩:=p
   obtain⟨h3,hn,h1,hq⟩:=headIn_b hh
   rw[hh]at e1
   obtain⟨o',e2⟩:=read_compX h3 hn hq (strsT (hd::rs)) rs 1 none (fun r hr=>hrows r (List.mem_cons_of_mem _ hr)) (fun i s hi=>by
    rw[show 1+i=i+1 by omega]
    show ((strsT rs)[i]?)=_
    unfold strsT
    rw[List.getElem?_map,hi]; rfl) (by omega)
   have ln:(strsT (hd::rs)).length=1+rs.length:=by simp[strsT]; omega
   have gr:(strsT (hd::rs)).length<=sizeLine:=line_big (by omega)
   have rg:∀ Γ':En,∀ L:List T,L.length=1+rs.length->L.length<=sizeLine->∀ t,dRng2 (jW (dC (.int 1)) (jW (dCB lenS (jW (jV 1) qQ)) qQ)) (t::some (.l L)::Γ')=some ((rngT ((1:Nat):Int) rs.length,[]),t::some (.l L)::Γ'):=fun Γ' L hL hz t=>by
    have:=rng2_ok (f:=dC (.int 1)) (g:=dCB lenS (jW (jV 1) qQ)) (Γ:=t::some (.l L)::Γ') (a:=1) (b:=1+rs.length) rfl (by simp[hL]) (by omega) (by omega)
    rw[show 1+rs.length - 1=rs.length by omega]at this
    exact this
   have rg':=fun Γ' t=>rg Γ' _ ln gr t
   have g3:(3:Nat)<=sizeLine:=by decide
   have k0:∀ a b:T,atI [a,b] 0=some a:=fun _ _=>rfl
   have k1:∀ a b:T,atI [a,b] 1=some b:=fun _ _=>rfl
   dsimp only
   cases hs:stepsIn n q 1 rs with
   | error e =>
    rw[hs]at e2
    simp only[headT,iT,stepsX]at *
    generalize strsT (hd::rs)=RW at *
    generalize rngT ((1:Nat):Int) rs.length=RG at *
    simp[F_20,fnD,d_20,-splitS_s,sp,i0,e1,rg',zC9,e2,dncT]
   | ok ss =>
    rw[hs]at e2
    have gs:(ss.map stT).length<=sizeLine:=line_big (by rw[List.length_map,stepsIn_len hs]; omega)
    simp only[headT,iT,stepsX,dncT,danT]at *
    generalize strsT (hd::rs)=RW at *
    generalize rngT ((1:Nat):Int) rs.length=RG at *
    generalize ss.map stT=ST at *
    simp[F_20,fnD,d_20,-splitS_s,sp,i0,e1,rg',zC9,e2,k0,k1,gd,g3,gs]
theorem zH2{tg:En->T->Option En}{b:DS}{t:T}{r:List T}{Γ Γ1 Γ2:En}{s:S}(h1:tg Γ t=some Γ1)(h2:b Γ1=some (.rt s Γ2)):forD tg b (t::r) Γ=some (.rt s Γ2):=by
 rw[zBR,h1,Option.bind_some,h2]; rfl
theorem zHz(t:List Nat)(h:∀ k∈t,k < 10)(hl:t.length<=100):d_24_e2 [some (.v (.a (.str (rowS t))))]=some (.v (tuT t),[some (.v (.a (.str (rowS t))))]):=by
 obtain⟨o',e⟩:=zBT t none h
 have e':compD (gdName 0) dYes d_24_e1 (t.map fun k=>T.a (.str (oneC (48+k)))) [none]=some (tvT t,[o']):=e
 rw[← zEt t h]at e'
 have ha:=zCr t h
 have hz:(rowS t).length<=sizeLine:=line_big (by rw[row_len t h]; omega)
 have gl:(tvT t).length<=sizeLine:=line_big (by simp; omega)
 have di:∀ Γ':En,dStrI (jV 0) (some (.v (.a (.str (rowS t))))::Γ')=some ((sgnT (rowS t),[]),some (.v (.a (.str (rowS t))))::Γ'):=fun Γ'=>by
  show (if (rowS t).cps.all (· < 128)=true/\(rowS t).length<=sizeLine then some ((sgnT (rowS t),[]),some (.v (.a (.str (rowS t))))::Γ') else none)=_
  rw[if_pos ⟨ha,hz⟩]
 simp only[tuT]
 generalize sgnT (rowS t)=SG at *
 generalize rowS t=RS at *
 generalize tvT t=TT at *
 simp[d_24_e2,-zDX,di,e',gd,gl]
theorem zJy(y z:List Nat)(hy:∀ k∈y,k < 10)(hz:∀ k∈z,k < 10)(ly:y.length<=100)(lz:z.length<=100):∃ o',compD (gdName 0) dYes d_24_e2 [.a (.str (rowS y)),.a (.str (rowS z))] [none]=some ([tuT y,tuT z],[o']) :=
 ⟨_,zAf (Γ1:=[some (.v (.a (.str (rowS y))))]) rfl (zHz y hy ly) (zAf (Γ1:=[some (.v (.a (.str (rowS z))))]) rfl (zHz z hz lz) rfl)⟩
theorem rngC(q:Nat)(hq:q<=10)(o:Option G):∃ o',compD (gdName 0) dYes d_24_e3 (rngT 0 q) [o]=some (strsT ((List.range' 0 (q - 0)).map numS),[o']):=by
 obtain⟨o',e⟩:=zBA (de:=d_24_e3) (fun _=>rfl) (q - 0) 0 o (by omega)
 exact⟨o',e⟩
theorem zHc(X0:Option G)(R S:List T)(o2 o8:Option G)(n q a:Nat)(x:Str)(hx:RowW x)(h3:3<=n)(hn:n<=5)(hq:q<=10)(hS:S.length<=20000)(ha:a<=20000):∃ o2' o8',
  d_24_b1 [X0,some (.l R),o2,some (.v (iT (n:Int))),some (.v (iT (q:Int))),some (.l S),some (.v (iT (a:Int))),some (.v (.a (.str x))),o8]=(match stepIn n q (Txt.split x " ") with
   | none=>some (.rt (.v (iT ((a+1:Nat):Int))) [X0,some (.l R),o2',some (.v (iT (n:Int))),some (.v (iT (q:Int))),some (.l S),some (.v (iT (a:Int))),some (.v (.a (.str x))),o8'])
   | some s=>some (.nx [X0,some (.l R),o2',some (.v (iT (n:Int))),some (.v (iT (q:Int))),some (.l (S++[stT s])),some (.v (iT (a:Int))),some (.v (.a (.str x))),o8'])):=by
 obtain⟨hl,hw⟩:=hx
 have sp:=fun Γ=>splS (rfl:Txt.split x " "=_) rfl (by omega) (by have:(Txt.split x " ").length<=x.length+1:=split_len x 32; omega) Γ
 have hl0:(Txt.split x " ").length<=x.length+1:=split_len x 32
 generalize Txt.split x " "=ws at *
 have g3:(3:Nat)<=sizeLine:=by decide
 have g2:(2:Nat)<=sizeLine:=by decide
 have gS:S.length < sizeLine:=line_lt (by omega)
 have gS':S.length<=sizeLine:=Nat.le_of_lt gS
 have ea:((a+1:Nat):Int)=(a:Int)+1:=by omega
 rw[ea]
 by_cases hl3:ws.length=3
 ·obtain⟨u,b,c,rfl⟩:∃ a b c,ws=[a,b,c]:=by
   match ws,hl3 with
   | [a,b,c],_=>exact⟨a,b,c,rfl⟩
  obtain⟨o3,cm⟩:=rngC q hq none
  have r1:=zAS q (by omega)
  have gl:(strsT ((List.range' 0 (q - 0)).map numS)).length<=sizeLine:=line_big (by simp[strsT]; omega)
  have e1:=zBH b n (hw b (by simp)) h3 hn
  have e2:=zBH c n (hw c (by simp)) h3 hn
  simp only[strsT,List.map_cons,List.map_nil]at sp
  have i0:∀ a b c:T,atI [a,b,c] 0=some a:=fun _ _ _=>rfl
  have i1:∀ a b c:T,atI [a,b,c] 1=some b:=fun _ _ _=>rfl
  have i2:∀ a b c:T,atI [a,b,c] 2=some c:=fun _ _ _=>rfl
  have k0:∀ a b:T,atI [a,b] 0=some a:=fun _ _=>rfl
  have k1:∀ a b:T,atI [a,b] 1=some b:=fun _ _=>rfl
  have cd:∀ a b c:T,cutT [a,b,c] (some 1) none=[b,c]:=fun _ _ _=>rfl
  cases hu:numIn 0 q u with
  | none =>
   have hh:stepIn n q [u,b,c]=none:=by simp[stepIn,hu]
   rw[hh]
   have ni:=fun Γ=>is_in Γ u _ (numIn_none hu)
   generalize strsT ((List.range' 0 (q - 0)).map numS)=ST at *
   generalize rngT 0 q=RG at *
   simp only[iT]at *
   simp[d_24_b1,-splitS_s,sp,i0,r1,cm,ni,gd,gl,g3]
  | some k =>
   obtain⟨q1,q2,hw0⟩:=numIn_some hu
   have ni:=fun Γ=>not_in Γ u _ (numIn_mem hu)
   have it:=num_int k (by omega)
   rw[← hw0]at it
   generalize strsT ((List.range' 0 (q - 0)).map numS)=ST at *
   generalize rngT 0 q=RG at *
   cases hb:turnIn n b with
   | none =>
    have hh:stepIn n q [u,b,c]=none:=by simp[stepIn,hu,hb]
    rw[hh]
    rw[hb]at e1
    simp only[iT,Option.isSome_none]at *
    simp[d_24_b1,-splitS_s,sp,i0,i1,i2,r1,cm,ni,gd,gl,g3,e1]
   | some y =>
    obtain⟨hy1,hy2,hy3⟩:=zAX hn hb
    rw[hb]at e1
    cases hc:turnIn n c with
    | none =>
     have hh:stepIn n q [u,b,c]=none:=by simp[stepIn,hu,hb,hc]
     rw[hh]
     rw[hc]at e2
     simp only[iT,Option.isSome_some,Option.isSome_none]at *
     simp[d_24_b1,-splitS_s,sp,i0,i1,i2,r1,cm,ni,gd,gl,g3,e1,e2]
    | some z =>
     obtain⟨hz1,hz2,hz3⟩:=zAX hn hc
     have hh:stepIn n q [u,b,c]=some (k,y,z):=by simp[stepIn,hu,hb,hc]
     rw[hh]
     rw[hc]at e2
     obtain⟨o4,tw⟩:=zJy y z hy2 hz2 (by omega) (by omega)
     rw[← hy1,← hz1]at tw
     simp only[iT,Option.isSome_some,stT]at *
     generalize tuT y=TY at *
     generalize tuT z=TZ at *
     simp[d_24_b1,-splitS_s,sp,i0,i1,i2,k0,k1,r1,cm,ni,it,gd,gl,g2,g3,gS,gS',e1,e2,cd,tw,hAppend]
 ·rw[zC5 hl3]
  have gl:(strsT ws).length<=sizeLine:=line_big (by simp[strsT]; omega)
  have hl':¬ (((strsT ws).length:Int)=3):=by simp[strsT]; omega
  generalize strsT ws=WS at *
  simp only[iT]at *
  simp[d_24_b1,-splitS_s,sp,hl',gd,gl]
theorem enum_strs(rs:List Str):enumT (strsT rs)=(rs.zipIdx 0).map fun p=>.t [iT (p.2:Int),.a (.str p.1)]:=by
 unfold enumT strsT
 rw[List.zipIdx_map,List.map_map]
 rfl
theorem rows_walk(X0:Option G)(R:List T)(n q:Nat)(h3:3<=n)(hn:n<=5)(hq:q<=10):∀ (rs:List Str) (a:Nat) (S:List T) (o2 o6 o7 o8:Option G),(∀ r∈rs,RowW r)->S.length+rs.length<=20000->a+rs.length<=20000->∃ o2' o6' o7' o8' S',
  forD (gdTup 2 (gdCons (gdName 6) (gdCons (gdName 7) gdNil))) d_24_b1 ((rs.zipIdx a).map fun p=>.t [iT (p.2:Int),.a (.str p.1)]) [X0,some (.l R),o2,some (.v (iT (n:Int))),some (.v (iT (q:Int))),some (.l S),o6,o7,o8]=(match stepsIn n q (a+1) rs with
   | .error e=>some (.rt (.v (iT (e:Int))) [X0,some (.l R),o2',some (.v (iT (n:Int))),some (.v (iT (q:Int))),some (.l S'),o6',o7',o8'])
   | .ok ss=>some (.nx [X0,some (.l R),o2',some (.v (iT (n:Int))),some (.v (iT (q:Int))),some (.l (S++ss.map stT)),o6',o7',o8']))
 | [],a,S,o2,o6,o7,o8,_,_,_=>⟨o2,o6,o7,o8,S,by simp[stepsIn,forD_nil]⟩
 | r::rs,a,S,o2,o6,o7,o8,h,hS,hA=>by
  simp only[List.length_cons]at hS hA
  obtain⟨p2,p8,t⟩:=zHc X0 R S o2 o8 n q a r (h r List.mem_cons_self) h3 hn hq (by omega) (by omega)
  rw[List.zipIdx_cons,List.map_cons]
  unfold stepsIn
  cases hs:stepIn n q (Txt.split r " ") with
  | none =>
   rw[hs]at t
   exact⟨p2,some (.v (iT (a:Int))),some (.v (.a (.str r))),p8,S,zH2 (Γ1:=[X0,some (.l R),o2,some (.v (iT (n:Int))),some (.v (iT (q:Int))),some (.l S),some (.v (iT (a:Int))),some (.v (.a (.str r))),o8]) rfl t⟩
  | some s =>
   rw[hs]at t
   obtain⟨y2,y6,y7,y8,S',e⟩:=rows_walk X0 R n q h3 hn hq rs (a+1) (S++[stT s]) p2 (some (.v (iT (a:Int)))) (some (.v (.a (.str r)))) p8 (fun x hx=>h x (List.mem_cons_of_mem _ hx)) (by simp; omega) (by omega)
   refine⟨y2,y6,y7,y8,S',?_⟩
   rw[forD_step (Γ1:=[X0,some (.l R),o2,some (.v (iT (n:Int))),some (.v (iT (q:Int))),some (.l S),some (.v (iT (a:Int))),some (.v (.a (.str r))),o8]) rfl t,e]
   dsimp only
   cases stepsIn n q (a+1+1) rs with
   | error e=>rfl
   | ok ss=>simp
theorem zJR(Γ:En)(x:Str)(ys:List Str):inS true Γ (.v (.a (.str x))) (.v (.t (strsT ys)))=inS true Γ (.v (.a (.str x))) (.l (strsT ys)):=rfl
theorem in345(Γ:En)(b:Str):inS true Γ (.v (.a (.str b))) (.v (.t [.a (.str "3"),.a (.str "4"),.a (.str "5")]))=some (.v (.a (.bl (numIn 3 6 b).isNone))):=by
 have e:([.a (.str "3"),.a (.str "4"),.a (.str "5")]:List T)=strsT ((List.range' 3 (6 - 3)).map numS):=by
  have:(List.range' 3 (6 - 3)).map numS=([("3":Str),("4":Str),("5":Str)]:List Str):=by decide +kernel
  rw[this]; rfl
 rw[e,zJR]
 cases h:numIn 3 6 b with
 | none=>exact is_in Γ b _ (numIn_none h)
 | some k=>exact not_in Γ b _ (numIn_mem h)
def dueT:Except Nat (Nat×Nat×List Stp)->T
 | .ok d=>danT d.1 d.2.1 d.2.2
 | .error r=>iT (r:Int)
theorem rng_eleven(o:Option G):∃ o',compD (gdName 0) dYes d_24_e4 (rngT ((1:Nat):Int) 10) [o]=some (strsT ((List.range' 1 (11 - 1)).map numS),[o']):=by
 obtain⟨o',e⟩:=zBA (de:=d_24_e4) (fun _=>rfl) 10 1 o (by omega)
 exact⟨o',e⟩
theorem zCX(x:Str)(hx:TextW x):F_24 [.v (.a (.str x))]=some (.v (dueT (danceIn x)),[]):=by
 obtain⟨hxl,hrows,hne⟩:=hx
 have sp:=fun Γ=>splS (rfl:Txt.split x "\n" = _) rfl (by omega) (by have : (Txt.split x "\n").length<=x.length+1:=split_len x 10; omega) Γ
 have hl0:(Txt.split x "\n").length<=x.length+1:=split_len x 10
 unfold danceIn
 generalize Txt.split x "\n"=rows at *
 cases rows with
 | nil=>exact absurd rfl hne
 | cons hd rs =>
  have hhd:=(hrows hd List.mem_cons_self).len
  have sp2:=fun Γ=>splS (rfl:Txt.split hd " "=_) rfl (by omega) (by have:(Txt.split hd " ").length<=hd.length+1:=split_len hd 32; omega) Γ
  have hl1:(Txt.split hd " ").length<=hd.length+1:=split_len hd 32
  have i0:atI (strsT (hd::rs)) 0=some (.a (.str hd)):=by rw[show (0:Int)=((0:Nat):Int) from rfl,atI_nat']; rfl
  have cd:cutT (strsT (hd::rs)) (some 1) none=strsT rs:=by
   have:cutT (strsT (hd::rs)) (some ((1:Nat):Int)) none=_:=cut_drop (strsT (hd::rs)) 1
   exact this
  have g4:(4:Nat)<=sizeLine:=by decide
  have g3:(3:Nat)<=sizeLine:=by decide
  have g0:(0:Nat)<=sizeLine:=by decide
  simp only[List.length_cons]at hl0
  dsimp only
  generalize Txt.split hd " "=ws at *
  by_cases hl:ws.length=4
  ·obtain⟨a,b,c,d,rfl⟩:∃ a b c d,ws=[a,b,c,d]:=by
    match ws,hl with
    | [a,b,c,d],_=>exact⟨a,b,c,d,rfl⟩
   have t3:=fun Γ=>in345 Γ b
   simp only[strsT,List.map_cons,List.map_nil]at sp2
   have j0:∀ a b c d:T,atI [a,b,c,d] 0=some a:=fun _ _ _ _=>rfl
   have j1:∀ a b c d:T,atI [a,b,c,d] 1=some b:=fun _ _ _ _=>rfl
   have j2:∀ a b c d:T,atI [a,b,c,d] 2=some c:=fun _ _ _ _=>rfl
   have j3:∀ a b c d:T,atI [a,b,c,d] 3=some d:=fun _ _ _ _=>rfl
   by_cases h1:a="cups"
   ·by_cases h2:c="questions"
    ·cases hn:numIn 3 6 b with
     | none =>
      rw[hn]at t3
      have hh:headIn [a,b,c,d]=none:=by simp[headIn,h1,h2,hn]
      rw[hh]
      generalize strsT (hd::rs)=RW at *
      simp only[Option.isNone_none]at t3
      simp[F_24,fnD,d_24,-splitS_s,sp,i0,sp2,j0,j1,j2,j3,h1,h2,t3,gd,g3,g4,dueT]
     | some n =>
      rw[hn]at t3
      simp only[Option.isNone_some]at t3
      obtain⟨o',cm⟩:=rng_eleven none
      have r1:∀ Γ:En,dRng2 (jW (dC (.int 1)) (jW (dC (.int 11)) qQ)) Γ=some ((rngT ((1:Nat):Int) 10,[]),Γ):=fun Γ=>rng2_ok (f:=dC (.int 1)) (g:=dC (.int 11)) (Γ:=Γ) (a:=1) (b:=11) rfl rfl (by decide) (by decide)
      have gl:(strsT ((List.range' 1 (11 - 1)).map numS)).length<=sizeLine:=line_big (by simp[strsT])
      cases hq:numIn 1 11 d with
      | none =>
       have hh:headIn [a,b,c,d]=none:=by simp[headIn,h1,h2,hn,hq]
       rw[hh]
       have ni:=fun Γ=>is_in Γ d _ (numIn_none hq)
       generalize strsT ((List.range' 1 (11 - 1)).map numS)=ST at *
       generalize rngT ((1:Nat):Int) 10=RG at *
       generalize strsT (hd::rs)=RW at *
       simp[F_24,fnD,d_24,-splitS_s,sp,i0,sp2,j0,j1,j2,j3,h1,h2,t3,r1,cm,ni,gd,gl,g3,g4,dueT]
      | some q =>
       have hh:headIn [a,b,c,d]=some (n,q):=by simp[headIn,h1,h2,hn,hq]
       rw[hh]
       obtain⟨u3,un,u1,uq⟩:=headIn_b hh
       obtain⟨_,_,wn⟩:=numIn_some hn
       obtain⟨_,_,wq⟩:=numIn_some hq
       have in1:=num_int n (by omega)
       have in2:=num_int q (by omega)
       rw[← wn]at in1
       rw[← wq]at in2
       have ni:=fun Γ=>not_in Γ d _ (numIn_mem hq)
       obtain⟨o2,o6,o7,o8,S',e⟩:=rows_walk (some (.v (.a (.str x)))) (strsT (hd::rs)) n q u3 un uq rs 0 [] (some (.l [.a (.str a),.a (.str b),.a (.str c),.a (.str d)])) none none none (fun r hr=>hrows r (List.mem_cons_of_mem _ hr)) (by simp; omega) (by omega)
       rw[← enum_strs rs,show 0+1=1 from rfl]at e
       have gr:(strsT rs).length<=sizeLine:=line_big (by simp[strsT]; omega)
       generalize strsT ((List.range' 1 (11 - 1)).map numS)=ST at *
       generalize rngT ((1:Nat):Int) 10=RG at *
       generalize strsT (hd::rs)=RW at *
       generalize strsT rs=RR at *
       have en:∀ (t:Option G) (Γ':En),dEnum (jW (dSl (jV 1) (dPart (dC (.int 1))) dNoPart) qQ) (t::some (.l RW)::Γ')=some ((enumT RR,[]),t::some (.l RW)::Γ'):=fun t Γ'=>by
        have ea:jW (dSl (jV 1) (dPart (dC (.int 1))) dNoPart) qQ (t::some (.l RW)::Γ')=some ([.l RR],t::some (.l RW)::Γ'):=by simp[cd,gd,gr]
        unfold dEnum
        rw[ea,Option.bind_some]
        show (gd RR.length ((enumT RR,[]),t::some (.l RW)::Γ'))=_
        simp[gd,gr]
       dsimp only at e ⊢
       cases hs:stepsIn n q 1 rs with
       | error m =>
        rw[hs]at e
        simp only[iT,h1,h2]at e
        simp[F_24,fnD,d_24,-splitS_s,sp,i0,sp2,j0,j1,j2,j3,h1,h2,t3,r1,cm,ni,gd,gl,g0,g3,g4,in1,in2,en,e,dueT]
       | ok ss =>
        rw[hs]at e
        have gs:(ss.map stT).length<=sizeLine:=line_big (by rw[List.length_map,stepsIn_len hs]; omega)
        simp only[iT,h1,h2,List.nil_append]at e
        simp only[dueT,danT]
        generalize ss.map stT=SS at *
        simp[F_24,fnD,d_24,-splitS_s,sp,i0,sp2,j0,j1,j2,j3,h1,h2,t3,r1,cm,ni,gd,gl,g0,g3,g4,in1,in2,en,e,gs]
    ·have hh:headIn [a,b,c,d]=none:=by simp[headIn,h2]
     rw[hh]
     generalize strsT (hd::rs)=RW at *
     simp[F_24,fnD,d_24,-splitS_s,sp,i0,sp2,j0,j1,j2,j3,h1,h2,gd,g4,dueT]
   ·have hh:headIn [a,b,c,d]=none:=by simp[headIn,h1]
    rw[hh]
    generalize strsT (hd::rs)=RW at *
    simp[F_24,fnD,d_24,-splitS_s,sp,i0,sp2,j0,j1,j2,j3,h1,gd,g4,dueT]
  ·rw[headIn_ne hl]
   have gl:(strsT ws).length<=sizeLine:=line_big (by simp[strsT]; omega)
   have hl':¬ (((strsT ws).length:Int)=4):=by simp[strsT]; omega
   generalize strsT ws=WS at *
   generalize strsT (hd::rs)=RW at *
   simp[F_24,fnD,d_24,-splitS_s,sp,i0,sp2,hl',gd,gl,dueT]
theorem xb_self(Γ:En)(fs:List (Str×V)):isXS csX mroX Γ [.v (.x "BadText" fs),.v (.f "BadText")]=some (.v (.a (.bl true))):=by
 show (((mroX.lookup ("BadText":Str)).bind fun (ms:List Str)=>if ("BadText":Str)∈csX then some (mkB (ms.contains ("BadText":Str))) else none))=_
 have e:mroX.lookup ("BadText":Str)=some (["BadText","CupError"]:List Str):=by decide +kernel
 rw[e,Option.bind_some,if_pos (by decide +kernel)]
 have:(["BadText","CupError"]:List Str).contains ("BadText":Str)=true:=by decide +kernel
 rw[this]; rfl
theorem xb_value(Γ:En)(fs:List (Str×V)):isXS csX mroX Γ [.v (.x "BadText" fs),.v (.a (.ty "ValueError"))]=some (.v (.a (.bl true))):=by
 show (if ("ValueError":String)="ValueError" then (mroX.lookup ("BadText":Str)).map fun _=>mkB true else none)=_
 have e:mroX.lookup ("BadText":Str)=some (["BadText","CupError"]:List Str):=by decide +kernel
 rw[if_pos rfl,e]; rfl
theorem xb_others(Γ:En)(fs:List (Str×V)):isXS csX mroX Γ [.v (.x "BadText" fs),.v (.t [.f "NoDance",.f "NoName",.f "NoRing",.f "NoRow",.f "OtherSizes",.f "TooHeavy"])]=some (.v (.a (.bl false))):=by
 show ((fnsOf [.f "NoDance",.f "NoName",.f "NoRing",.f "NoRow",.f "OtherSizes",.f "TooHeavy"]).bind fun (ds:List Str)=>(mroX.lookup ("BadText":Str)).bind fun (ms:List Str)=>if ∀ d∈ds,d∈csX then some (mkB (ds.any fun d=>ms.contains d)) else none)=_
 have e:mroX.lookup ("BadText":Str)=some (["BadText","CupError"]:List Str):=by decide +kernel
 have f:fnsOf [.f "NoDance",.f "NoName",.f "NoRing",.f "NoRow",.f "OtherSizes",.f "TooHeavy"]=some (["NoDance","NoName","NoRing","NoRow","OtherSizes","TooHeavy"]:List Str):=rfl
 rw[f,Option.bind_some,e,Option.bind_some,if_pos (by decide +kernel)]
 have:((["NoDance","NoName","NoRing","NoRow","OtherSizes","TooHeavy"]:List Str).any fun d=>(["BadText","CupError"]:List Str).contains d)=false:=by decide +kernel
 rw[this]; rfl
theorem getX_row(Γ:En)(r:Nat):dGetX gkX "row" (jV 0) (some (.v (badT r))::Γ)=some (.v (iT (r:Int)),some (.v (badT r))::Γ):=by
 show (if (("BadText":Str),("row":Str))∈gkX then ((([(("row":Str),V.int (r:Int))]:List (Str×V)).lookup ("row":Str))).bind fun v=>if handV v=true then some (S.v (.a v),some (G.v (badT r))::Γ) else none else none)=_
 rw[if_pos (by decide +kernel)]
 have:([(("row":Str),V.int (r:Int))]:List (Str×V)).lookup ("row":Str)=some (.int (r:Int)):=by
  rw[List.lookup_cons]; simp
 rw[this]; rfl
theorem bad_ok(r:Nat):F_21 [.v (badT r)]=some (.v (iT (r:Int)),[]):=by
 have h1:=fun Γ=>xb_self Γ [("row",.int (r:Int))]
 have h2:=fun Γ=>xb_value Γ [("row",.int (r:Int))]
 have h3:=fun Γ=>xb_others Γ [("row",.int (r:Int))]
 have h4:=getX_row [] r
 have g6:(6:Nat)<=sizeLine:=by decide
 simp only[iT,badT]at *
 have e:(G.v (T.x "BadText" [("row",.int (r:Int))]))=G.v (.x "BadText" [("row",.int (r:Int))]):=rfl
 simp[F_21,fnD,d_21,h1,h2,h3,h4,gd,g6,isiS,tyN,subLT,subTy]
def toldT:Except Nat (Nat×Nat×List Stp)->T
 | .ok d=>.t [.a (.str "told"),danT d.1 d.2.1 d.2.2]
 | .error r=>.t [.a (.str "refused"),iT (r:Int)]
theorem told_any(x:Str)(hx:TextW x):F_22 [.v (.a (.str x))]=some (.v (toldT (danceIn x)),[]):=by
 have e:=read_dance_any x hx
 have g1:(1:Nat)<=sizeLine:=by decide
 have g2:(2:Nat)<=sizeLine:=by decide
 cases h:danceIn x with
 | ok d =>
  rw[h]at e
  simp only[dncT,danT,toldT]at *
  generalize d.2.2.map stT=SS at *
  simp only[iT]at *
  simp[F_22,fnD,d_22,dTryF_ap,e,gd,g1,g2]
 | error r =>
  rw[h]at e
  have eb:=bad_ok r
  have hm:("BadText":Str)∈(["BadText"]:List Str):=List.mem_cons_self
  simp only[dncT,badT,toldT,iT]at *
  simp[F_22,fnD,d_22,dTryF_ap,e,eb,gd,g1,g2,goO]
theorem zIK(x:Str)(hx:TextW x):F_25 [.v (.a (.str x))]=some (.v (toldT (danceIn x)),[]):=by
 have e:=zCX x hx
 have g2:(2:Nat)<=sizeLine:=by decide
 have k0:∀ a b:T,atI [a,b] 0=some a:=fun _ _=>rfl
 have k1:∀ a b:T,atI [a,b] 1=some b:=fun _ _=>rfl
 cases h:danceIn x with
 | ok d =>
  rw[h]at e
  simp only[dueT,danT,toldT]at *
  generalize d.2.2.map stT=SS at *
  simp only[iT]at *
  simp[F_25,fnD,d_25,e,gd,g2,isiS,tyN,subLT,subTy,k0,k1]
 | error r =>
  rw[h]at e
  simp only[dueT,toldT,iT]at *
  simp[F_25,fnD,d_25,e,gd,g2,isiS,tyN,subLT,subTy,k0,k1]
theorem zHj{n q:Nat}{ws:List Str}{s:Stp}(hn:n<=5)(h:stepIn n q ws=some s):s.2.1.length<=5/\s.2.2.length<=5:=by
 unfold stepIn at h
 split at h
 ·obtain⟨k,_,h⟩:=Option.bind_eq_some_iff.mp h
  obtain⟨y,h1,h⟩:=Option.bind_eq_some_iff.mp h
  obtain⟨z,h2,h⟩:=Option.map_eq_some_iff.mp h
  cases h
  have a:=(zAX hn h1).2.2
  have b:=(zAX hn h2).2.2
  exact⟨by show y.length<=5; omega,by show z.length<=5; omega⟩
 ·cases h
theorem zC0{n q:Nat}(hn:n<=5):∀ {rs:List Str} {k:Nat} {ss:List Stp},stepsIn n q k rs=.ok ss->∀ s∈ss,s.2.1.length<=5/\s.2.2.length<=5
 | [],k,ss,h=>by cases h; exact fun s hs=>nomatch hs
 | r::rs,k,ss,h=>by
  unfold stepsIn at h
  split at h
  ·cases h
  ·rename_i s hs
   split at h
   ·rename_i e
    cases h
    intro z hz
    rcases List.mem_cons.mp hz with rfl | hz
    ·exact zHj hn hs
    ·exact zC0 hn e z hz
   ·cases h
theorem zIq(x:Str)(hx:TextW x):Pl 11 (toldT (danceIn x)):=by
 have hl0:(Txt.split x "\n").length<=x.length+1:=split_len x 10
 have hxl:=hx.len
 have go:∀ (n q:Nat) (rs:List Str) (ss:List Stp),n<=5->rs.length<=10000->stepsIn n q 1 rs=.ok ss->Pl 10 (danT n q ss):=fun n q rs ss hn hr hs=>by
  refine Pl.tup (n:=9) (by simp) fun x hx=>?_
  simp only[List.mem_cons,List.not_mem_nil,or_false]at hx
  rcases hx with rfl | rfl | rfl
  ·exact Pl.int _
  ·exact Pl.int _
  ·refine Pl.tup (n:=8) (by rw[List.length_map,stepsIn_len hs]; exact hr) fun y hy=>?_
   obtain⟨s,hs',rfl⟩:=List.mem_map.mp hy
   have h:=zC0 hn hs s hs'
   refine Pl.tup (n:=7) (by simp) fun z hz=>?_
   simp only[List.mem_cons,List.not_mem_nil,or_false]at hz
   rcases hz with rfl | rfl | rfl
   ·exact Pl.int _
   ·exact Pl.turn (n:=6) (by omega)
   ·exact Pl.turn (n:=6) (by omega)
 cases h:danceIn x with
 | error r =>
  refine Pl.tup (n:=10) (by simp) fun x hx=>?_
  simp only[List.mem_cons,List.not_mem_nil,or_false]at hx
  rcases hx with rfl | rfl
  ·exact Pl.atom rfl
  ·exact Pl.int _
 | ok d =>
  refine Pl.tup (n:=10) (by simp) fun z hz=>?_
  simp only[List.mem_cons,List.not_mem_nil,or_false]at hz
  rcases hz with rfl | rfl
  ·exact Pl.atom rfl
  ·unfold danceIn at h
   split at h
   ·cases h
   ·rename_i hd rs he
    split at h
    ·cases h
    ·rename_i p hp
     obtain⟨n,q⟩:=p
     split at h
     ·rename_i ss hs
      cases h
      rw[he]at hl0
      simp only[List.length_cons]at hl0
      exact go n q rs ss (headIn_b hp).2.1 (by omega) hs
     ·cases h
theorem zFb(x:Str)(hx:TextW x):F_0 fuel_0 [.v (toldT (danceIn x)),.v (toldT (danceIn x))]=some (.v (.a (.bl true)),[]):=alike12 _ (zIq x hx)
def sepB(c:Nat):Bool:=c == 32 || c == 10
def Sg(j L:Nat)(xs:List Nat):Prop:=∀ p m s,xs=p++m++s->m.countP sepB<=j->m.length<=L
theorem Sg.mono{j L L':Nat}{xs:List Nat}(h:Sg j L xs)(hL:L<=L'):Sg j L' xs:=fun p m s e c=>Nat.le_trans (h p m s e c) hL
theorem Sg.inf{j L:Nat}{xs ys p s:List Nat}(h:Sg j L xs)(e:xs=p++ys++s):Sg j L ys:=fun p' m s' e' c=>h (p++p') m (s'++s) (by rw[e,e']; simp[List.append_assoc]) c
theorem Sg.len{L:Nat}{xs:List Nat}(h:xs.length<=L)(j:Nat):Sg j L xs:=fun p m s e _=>by
 have:=congrArg List.length e
 simp at this
 omega
theorem zDB:∀ m:List Nat,m.countP sepB≠0->∃ m1 c m2,m=m1++c::m2/\m1.countP sepB=0/\sepB c=true
 | [],h=>absurd rfl h
 | c::r,h=>by
  by_cases hc:sepB c=true
  ·exact⟨[],c,r,rfl,rfl,hc⟩
  ·rw[List.countP_cons_of_neg hc]at h
   obtain⟨m1,d,m2,e,h1,h2⟩:=zDB r h
   exact⟨c::m1,d,m2,by rw[e]; rfl,by rw[List.countP_cons_of_neg hc]; exact h1,h2⟩
theorem Sg.all{a:Nat}{xs:List Nat}(h:Sg 0 a xs):∀ j,Sg j ((j+1) * a+j) xs
 | 0=>h.mono (by simp)
 | j+1=>fun p m s e c=>by
  have ih:=Sg.all h j
  by_cases z:m.countP sepB=0
  ·have:=h p m s e (by omega)
   have q:a<=(j+1+1) * a:=Nat.le_mul_of_pos_left a (by omega)
   exact Nat.le_trans this (Nat.le_trans q (Nat.le_add_right _ _))
  ·obtain⟨m1,d,m2,rfl,h1,h2⟩:=zDB m z
   have l1:=h p m1 (d::m2++s) (by rw[e]; simp[List.append_assoc]) (by omega)
   have c2:m2.countP sepB<=j:=by
    rw[List.countP_append,List.countP_cons_of_pos h2]at c
    omega
   have l2:=ih (p++m1++[d]) m2 s (by rw[e]; simp[List.append_assoc]) c2
   rw[List.length_append,List.length_cons]
   have:(j+1+1) * a=(j+1) * a+a:=by rw[Nat.succ_mul]
   omega
theorem part3{u v p m s:List Nat}{c:Nat}(e:u++c::v=p++m++s):(∃ a,u=p++m++a)\/(∃ a b,u=p++a/\m=a++c::b/\v=b++s)\/(∃ a,v=a++m++s):=by
 rcases List.append_eq_append_iff.mp e with ⟨a,h1,h2⟩ | ⟨b,h1,h2⟩
 ·-- p++m=u++a
  cases a with
  | nil=>exact .inl ⟨[],by rw[List.append_nil]at h1; rw[h1,List.append_nil]⟩
  | cons x a =>
   rw[List.cons_append]at h2
   obtain⟨hx,hv⟩:=List.cons.inj h2
   subst hx
   rcases List.append_eq_append_iff.mp h1 with ⟨a',g1,g2⟩ | ⟨b',g1,g2⟩
   ·exact .inr (.inl ⟨a',a,g1,g2,hv⟩)
   ·cases b' with
    | nil=>exact .inr (.inl ⟨[],a,by rw[List.append_nil]at g1 ⊢; exact g1.symm,by rw[List.nil_append]at g2 ⊢; exact g2.symm,hv⟩)
    | cons y b' =>
     rw[List.cons_append]at g2
     obtain⟨_,g3⟩:=List.cons.inj g2
     exact .inr (.inr ⟨b',by rw[hv,g3]⟩)
 ·exact .inl ⟨b,h1⟩
theorem Sg.sign{j L:Nat}{u ds v:List Nat}{c:Nat}(hd:ds.length<=1)(h:Sg (j+1) L (u++ds++v)):Sg j (L+1) (u++c::v):=fun p m s e k=>by
 rcases part3 e with ⟨a,rfl⟩ | ⟨a,b,rfl,rfl,rfl⟩ | ⟨a,rfl⟩
 ·have:=h p m (a++ds++v) (by simp[List.append_assoc]) (by omega)
  omega
 ·have cd:ds.countP sepB<=1:=Nat.le_trans List.countP_le_length hd
  have hk:(a++ds++b).countP sepB<=j+1:=by
   rw[List.countP_append,List.countP_cons]at k
   rw[List.countP_append,List.countP_append]
   omega
  have:=h p (a++ds++b) s (by simp[List.append_assoc]) hk
  simp only[List.length_append,List.length_cons]at this ⊢
  omega
 ·have:=h (u++ds++a) m s (by simp[List.append_assoc]) (by omega)
  omega
theorem Sg.app{a:Nat}{u v:List Nat}{c:Nat}(hc:sepB c=true)(hu:Sg 0 a u)(hv:Sg 0 a v):Sg 0 a (u++c::v):=fun p m s e k=>by
 rcases part3 e with ⟨x,hx⟩ | ⟨x,b,_,rfl,_⟩ | ⟨x,hx⟩
 ·exact hu p m x hx k
 ·rw[List.countP_append,List.countP_cons_of_pos hc]at k
  omega
 ·exact hv x m s hx k
structure FromOk(z x:Str):Prop where
 asc:∀ c∈x.cps.toList,c < 128
 sg:∀ a,9<=a->Sg 0 a z.cps.toList->Sg 0 a x.cps.toList
theorem zAJ{z x:Str}(ha:∀ c∈x.cps.toList,c < 128)(hl:x.length<=9):FromOk z x:=⟨ha,fun a h9 _=>Sg.len (by rw[Array.length_toList]; exact Nat.le_trans hl h9) 0⟩
theorem from_join{z:Str}{c:Nat}(hc:sepB c=true):∀ {ps:List Str},(∀ p∈ps,FromOk z p)->FromOk z (Str.join ⟨#[c]⟩ ps)
 | [],_=>zAJ (fun c hc=>by simp[Str.join,Str.empty]at hc) (by show 0<=9; decide)
 | [x],h=>h x List.mem_cons_self
 | x::y::r,h=>by
  have ih:=from_join hc (ps:=y::r) fun p hp=>h p (List.mem_cons_of_mem _ hp)
  have hx:=h x List.mem_cons_self
  have hc':c < 128:=by
   unfold sepB at hc
   simp at hc
   omega
  constructor
  ·intro d hd
   rw[zAw]at hd
   rcases List.mem_append.mp hd with hd | hd
   ·exact hx.asc d hd
   ·rcases List.mem_cons.mp hd with rfl | hd
    ·exact hc'
    ·exact ih.asc d hd
  ·intro a h9 hz
   rw[zAw]
   exact Sg.app hc (hx.sg a h9 hz) (ih.sg a h9 hz)
theorem zDg(c:Nat):∀ {ps:List Str} {x:Str},x∈ps->∃ p s,(Str.join ⟨#[c]⟩ ps).cps.toList=p++x.cps.toList++s
 | [],_,h=>nomatch h
 | [y],x,h=>by
  have:x=y:=by simpa using h
  subst this
  exact⟨[],[],by show x.cps.toList=_; simp⟩
 | y::w::r,x,h=>by
  rw[zAw]
  rcases List.mem_cons.mp h with rfl | h
  ·exact⟨[],c::(Str.join ⟨#[c]⟩ (w::r)).cps.toList,by simp⟩
  ·obtain⟨p,s,e⟩:=zDg c (ps:=w::r) h
   exact⟨y.cps.toList++c::p,s,by rw[e]; simp[List.append_assoc]⟩
theorem zBK(x:Str)(c:Nat){r:Str}(h:r∈Txt.split x ⟨#[c]⟩):∃ p s,x.cps.toList=p++r.cps.toList++s:=by
 have:=zDg c h
 rw[StrLaws.join_split]at this
 exact this
theorem from_split{z x:Str}(h:FromOk z x){c:Nat}{r:Str}(hr:r∈Txt.split x ⟨#[c]⟩):FromOk z r:=by
 obtain⟨p,s,e⟩:=zBK x c hr
 exact⟨fun d hd=>h.asc d (by rw[e]; simp[hd]),fun a h9 hz=>(h.sg a h9 hz).inf e⟩
theorem zIo{x r:Str}{p s:List Nat}(e:x.cps.toList=p++r.cps.toList++s):r.length<=x.length:=by
 have q:x.cps.toList.length=(p++r.cps.toList++s).length:=congrArg List.length e
 rw[List.length_append,List.length_append]at q
 have a:x.cps.toList.length=x.length:=Array.length_toList
 have b:r.cps.toList.length=r.length:=Array.length_toList
 omega
theorem zA6(x:Str)(c:Nat):Txt.split x ⟨#[c]⟩≠[]:=fun z=>by
 have e:=StrLaws.join_split x ⟨#[c]⟩
 rw[z]at e
 rw[← e]at z
 unfold Txt.split at z
 have cnd:(decide ((Str.join ⟨#[c]⟩ []).length < (⟨#[c]⟩:Str).length) || decide (Builtin.Str.strKind (Str.join ⟨#[c]⟩ []) < Builtin.Str.strKind ⟨#[c]⟩))=true:=by
  rw[Bool.or_eq_true]; exact .inl (decide_eq_true (by show 0 < 1; decide))
 rw[if_pos cnd]at z
 cases z
theorem zBB{x:Str}(ha:∀ c∈x.cps.toList,c < 128)(hl:x.length<=10000)(hs:Sg 0 42 x.cps.toList):TextW x:=by
 refine⟨hl,fun r hr=>?_,zA6 x 10⟩
 obtain⟨p,s,e⟩:=zBK x 10 hr
 have f10:=StrLaws.split_free x 10 r hr
 refine⟨Nat.le_trans (zIo e) hl,fun w hw=>?_⟩
 obtain⟨p',s',e'⟩:=zBK r 32 hw
 have f32:=StrLaws.split_free r 32 w hw
 have ewx:x.cps.toList=(p++p')++w.cps.toList++(s'++s):=by rw[e,e']; simp[List.append_assoc]
 refine⟨fun c hc=>ha c (by rw[ewx]; simp[hc]),?_⟩
 have h0:w.cps.toList.countP sepB=0:=by
  rw[List.countP_eq_zero]
  intro c hc hsep
  unfold sepB at hsep
  rw[Bool.or_eq_true]at hsep
  rcases hsep with z | z
  ·exact f32 ((eq_of_beq z) ▸ hc)
  ·exact f10 ((eq_of_beq z) ▸ (by rw[e']; simp[hc]))
 have:=hs _ _ _ ewx (by omega)
 rw[Array.length_toList]at this
 show w.cps.size < 64
 omega
def tot(ps:List Str):Nat:=(ps.map (·.length)).sum+ps.length
theorem zAL(a b:List Str):tot (a++b)=tot a+tot b:=by
 unfold tot
 rw[List.map_append,List.sum_append,List.length_append]
 omega
theorem zBe(ps:List Str)(s:Nat):tot (ps.take s)+tot (ps.drop s)=tot ps:=by rw[← zAL,List.take_append_drop]
theorem zDV(ps:List Str)(s:Nat):tot (ps.drop (s+1))<=tot (ps.drop s):=by
 have:=zBe (ps.drop s) 1
 rw[List.drop_drop]at this
 omega
theorem zD4(ps:List Str)(s:Nat):tot (ps.take s)<=tot ps:=by
 have:=zBe ps s
 omega
theorem zBt(c:Nat):∀ ps:List Str,ps≠[]->(Str.join ⟨#[c]⟩ ps).length+1=tot ps
 | [],h=>absurd rfl h
 | [x],_=>by show x.length+1=x.length+0+1; omega
 | x::y::r,_=>by
  have ih:=zBt c (y::r) (List.cons_ne_nil _ _)
  have e:=congrArg List.length (zAw c x y r)
  rw[List.length_append,List.length_cons,Array.length_toList,Array.length_toList,Array.length_toList]at e
  have e':(Str.join ⟨#[c]⟩ (x::y::r)).length=x.length+((Str.join ⟨#[c]⟩ (y::r)).length+1):=e
  rw[e',ih]
  unfold tot
  simp only[List.map_cons,List.sum_cons,List.length_cons]
  omega
theorem zBi(c:Nat)(ps:List Str):(Str.join ⟨#[c]⟩ ps).length<=tot ps:=by
 cases ps with
 | nil=>show 0<=_; exact Nat.zero_le _
 | cons x r=>have:=zBt c (x::r) (List.cons_ne_nil _ _); omega
theorem zCv(x:Str)(c:Nat):tot (Txt.split x ⟨#[c]⟩)=x.length+1:=by
 have:=zBt c _ (zA6 x c)
 rw[StrLaws.join_split]at this
 exact this.symm
theorem zAQ(ps:List Str):ps.length<=tot ps:=Nat.le_add_left _ _
theorem zAR(a b:List Str):strsT a++strsT b=strsT (a++b):=by simp[strsT]
theorem zBD(Γ:En)(c:Nat)(ps:List Str)(h:tot ps<=1000000):joinS Γ [.v (.a (.str ⟨#[c]⟩)),.l (strsT ps)]=some (.v (.a (.str (Str.join ⟨#[c]⟩ ps)))):=by
 show ((strsOf (strsT ps)).bind fun ys=>if (ys.map (·.length)).sum+ys.length * (⟨#[c]⟩:Str).length<=16777216 then some (S.v (.a (.str (Txt.join ⟨#[c]⟩ ys)))) else none)=_
 rw[zBC,Option.bind_some,if_pos]
 ·rw[show Txt.join ⟨#[c]⟩ ps=Str.join ⟨#[c]⟩ ps from StrLaws.glued_eq_join _ _]
 ·unfold tot at h
  show (ps.map (·.length)).sum+ps.length * 1<=16777216
  omega
theorem zBW(ws:List Str)(s:Nat):cutT (strsT ws) none (some (s:Int))=strsT (ws.take s):=by rw[zG5]; simp[strsT,List.map_take]
theorem zBU(ws:List Str)(s:Nat):cutT (strsT ws) (some (s:Int)) none=strsT (ws.drop s):=by rw[cut_drop]; simp[strsT,List.map_drop]
theorem zCA(ws:List Str)(s:Nat):cutT (strsT ws) none (some ((s:Int)+1))=strsT (ws.take (s+1)):=zBW ws (s+1)
theorem zCF(ws:List Str)(s:Nat):cutT (strsT ws) (some ((s:Int)+1)) none=strsT (ws.drop (s+1)):=zBU ws (s+1)
def wordL:List Str:=["0","1","9","10","00","01","11","3","4","5","2","6","012","120","0123","3210","01234","11234","112","013","0124","cups","questions","Cups","","-1","x","12","43210","012345","021 "]
theorem zHD:∀ w∈wordL,w.length<=9/\∀ c∈w.cps.toList,c < 128:=by decide +kernel
theorem zIS(a b:Int):∃ w a' b',w∈wordL/\F_9 [.l [iT a,iT b]]=some (.v (.a (.str w)),[iT a',iT b']):=by
 obtain⟨k,a1,b1,hk,e⟩:=zAE a b 31 (by decide) (by decide)
 have hl:wordL.length=31:=rfl
 have at':atI (strsT wordL) (k:Int)=some (.a (.str (wordL.getD k ""))):=by
  rw[atI_nat']
  unfold strsT
  rw[List.getElem?_map,List.getD_eq_getElem?_getD,List.getElem?_eq_getElem (by omega)]
  rfl
 refine⟨wordL.getD k "",a1,b1,?_,?_⟩
 ·rw[List.getD_eq_getElem?_getD,List.getElem?_eq_getElem (by omega)]
  exact List.getElem_mem _
 ·have e':F_4 [.l [iT a,iT b],.v (.a (.int 31))]=some (.v (iT (k:Int)),[iT a1,iT b1]):=e
  have wl:strsT wordL=[.a (.str "0"),.a (.str "1"),.a (.str "9"),.a (.str "10"),.a (.str "00"),.a (.str "01"),.a (.str "11"),.a (.str "3"),.a (.str "4"),.a (.str "5"),.a (.str "2"),.a (.str "6"),.a (.str "012"),.a (.str "120"),.a (.str "0123"),.a (.str "3210"),.a (.str "01234"),.a (.str "11234"),.a (.str "112"),.a (.str "013"),.a (.str "0124"),.a (.str "cups"),.a (.str "questions"),.a (.str "Cups"),.a (.str ""),.a (.str "-1"),.a (.str "x"),.a (.str "12"),.a (.str "43210"),.a (.str "012345"),.a (.str "021 ")]:=rfl
  rw[wl]at at'
  generalize wordL.getD k ""=WW at *
  have g17:(17:Nat)<=sizeLine:=by decide
  have g12:(12:Nat)<=sizeLine:=by decide
  have g29:(29:Nat)<=sizeLine:=by decide
  have g2:(2:Nat)<=sizeLine:=by decide
  have g31:(31:Nat)<=sizeLine:=by decide
  simp only[iT]at *
  simp[F_9,fnD,d_9,gd,g17,g12,g29,g2,g31,e',at']
theorem zH4(a b:Int)(x:Str)(hx:x.length<=9000):∃ y a' b',F_10 [.l [iT a,iT b],.v (.a (.str x))]=some (.v (.a (.str y)),[iT a',iT b'])/\(∀ z,FromOk z x->FromOk z y)/\y.length<=2 * x.length+20:=by
 have ht:=zCv x 32
 have hne:=zA6 x 32
 have sp:=fun Γ=>splS (rfl:Txt.split x " "=_) rfl (by omega) (by have:(Txt.split x " ").length<=x.length+1:=split_len x 32; omega) Γ
 have fr:∀ z,FromOk z x->∀ w∈Txt.split x (⟨#[32]⟩:Str),FromOk z w:=fun z h w hw=>from_split h hw
 have hb:(" ":Str)=⟨#[32]⟩:=rfl
 rw[hb]at sp
 generalize Txt.split x (⟨#[32]⟩:Str)=ws at *
 have hl:=zAQ ws
 have hpos:0 < ws.length:=by
  cases ws with
  | nil=>exact absurd rfl hne
  | cons _ _=>simp
 obtain⟨s,a1,b1,hs,e1⟩:=zAE a b ws.length hpos (by omega)
 obtain⟨f,a2,b2,hf,e2⟩:=zAE a1 b1 4 (by decide) (by decide)
 obtain⟨w,a3,b3,hw,e3⟩:=zIS a2 b2
 obtain⟨w1,w2⟩:=zHD w hw
 have e2':F_4 [.l [iT a1,iT b1],.v (.a (.int 4))]=some (.v (iT (f:Int)),[iT a2,iT b2]):=e2
 have t1:=zBe ws s
 have t2:=zDV ws s
 have t3:=zD4 ws (s+1)
 have tw:tot [w]=w.length+1:=by show w.length+0+1=_; omega
 have c1:=zBW ws s
 have c2:=zCF ws s
 have c3:=zCA ws s
 have c4:=zBU ws s
 have hln:(strsT ws).length=ws.length:=by simp[strsT]
 have sl:∀ ps:List Str,(strsT ps).length=ps.length:=fun ps=>by simp[strsT]
 have lt1:=zAQ (ws.take s)
 have lt2:=zAQ (ws.drop s)
 have lt3:=zAQ (ws.take (s+1))
 have lt4:=zAQ (ws.drop (s+1))
 have gl:ws.length<=sizeLine:=line_big (by omega)
 have g1:(1:Nat)<=sizeLine:=by decide
 have q1:(strsT (ws.take s)).length<=sizeLine:=line_big (by rw[sl]; omega)
 have q2:(strsT (ws.drop s)).length<=sizeLine:=line_big (by rw[sl]; omega)
 have q3:(strsT (ws.take (s+1))).length<=sizeLine:=line_big (by rw[sl]; omega)
 have q4:(strsT (ws.drop (s+1))).length<=sizeLine:=line_big (by rw[sl]; omega)
 have r1:(strsT (ws.take s)).length+(strsT (ws.drop (s+1))).length<=sizeLine:=line_big (by rw[sl,sl]; omega)
 have r2:(strsT (ws.take (s+1))).length+(strsT (ws.drop s)).length<=sizeLine:=line_big (by rw[sl,sl]; omega)
 have r3:(strsT (ws.take s)).length+1<=sizeLine:=line_big (by rw[sl]; omega)
 have r4:(strsT (ws.take s)).length+1+(strsT (ws.drop (s+1))).length<=sizeLine:=line_big (by rw[sl,sl]; omega)
 have r5:(strsT (ws.take s)).length+((strsT (ws.drop (s+1))).length+1)<=sizeLine:=line_big (by rw[sl,sl]; omega)
 have j1:=fun Γ=>zBD Γ 32 (ws.take s++ws.drop (s+1)) (by rw[zAL]; omega)
 have j2:=fun Γ=>zBD Γ 32 (ws.take (s+1)++ws.drop s) (by rw[zAL]; omega)
 have j3:=fun Γ=>zBD Γ 32 (ws.take s++([w]++ws.drop (s+1))) (by rw[zAL,zAL]; omega)
 rw[← zAR]at j1 j2
 rw[← zAR,← zAR]at j3
 have mem:∀ z,FromOk z x->∀ p,(p∈ws\/p=w)->FromOk z p:=fun z h p hp=>by
  rcases hp with hp | rfl
  ·exact fr z h p hp
  ·exact zAJ w2 w1
 have k1:=zBi 32 (ws.take s++ws.drop (s+1))
 have k2:=zBi 32 (ws.take (s+1)++ws.drop s)
 have k3:=zBi 32 (ws.take s++([w]++ws.drop (s+1)))
 rw[zAL]at k1 k2
 rw[zAL,zAL]at k3
 by_cases f0:f=0
 ·subst f0
  refine⟨Str.join ⟨#[32]⟩ (ws.take s++ws.drop (s+1)),a2,b2,?_,fun z h=>from_join rfl fun p hp=>mem z h p (.inl ?_),by omega⟩
  ·generalize Str.join ⟨#[32]⟩ (ws.take s++ws.drop (s+1))=JJ at *
   rw[← hln]at e1
   generalize strsT (ws.take s)=A1 at *
   generalize strsT (ws.drop (s+1))=A2 at *
   generalize strsT ws=WS at *
   rw[hln]at e1
   simp only[iT]at *
   simp[F_10,fnD,d_10,-splitS_s,-zAH,hb,sp,hln,gl,gd,e1,e2',c1,c2,q1,q4,r1,j1]
  ·rcases List.mem_append.mp hp with hp | hp
   ·exact List.mem_of_mem_take hp
   ·exact List.mem_of_mem_drop hp
 ·by_cases f1:f=1
  ·subst f1
   refine⟨Str.join ⟨#[32]⟩ (ws.take (s+1)++ws.drop s),a2,b2,?_,fun z h=>from_join rfl fun p hp=>mem z h p (.inl ?_),by omega⟩
   ·generalize Str.join ⟨#[32]⟩ (ws.take (s+1)++ws.drop s)=JJ at *
    generalize strsT (ws.take (s+1))=A1 at *
    generalize strsT (ws.drop s)=A2 at *
    generalize strsT ws=WS at *
    simp only[iT]at *
    simp[F_10,fnD,d_10,-splitS_s,-zAH,hb,sp,hln,gl,gd,e1,e2',c3,c4,q2,q3,r2,j2]
   ·rcases List.mem_append.mp hp with hp | hp
    ·exact List.mem_of_mem_take hp
    ·exact List.mem_of_mem_drop hp
  ·refine⟨Str.join ⟨#[32]⟩ (ws.take s++([w]++ws.drop (s+1))),a3,b3,?_,fun z h=>from_join rfl fun p hp=>mem z h p ?_,by omega⟩
   ·have n0:¬ ((f:Int)=0):=by omega
    have n1:¬ ((f:Int)=1):=by omega
    have n0':¬ (f=0):=f0
    have j3':∀ Γ:En,joinS Γ [.v (.a (.str ⟨#[32]⟩)),.l (strsT (ws.take s)++T.a (.str w)::strsT (ws.drop (s+1)))]=some (.v (.a (.str (Str.join ⟨#[32]⟩ (ws.take s++([w]++ws.drop (s+1))))))):=j3
    generalize Str.join ⟨#[32]⟩ (ws.take s++([w]++ws.drop (s+1)))=JJ at *
    generalize strsT (ws.take s)=A1 at *
    generalize strsT (ws.drop (s+1))=A2 at *
    generalize strsT ws=WS at *
    simp only[iT]at *
    simp[F_10,fnD,d_10,-splitS_s,-zAH,hb,sp,hln,gl,gd,e1,e2',n0,n1,f0,f1,e3,c1,c2,g1,q1,q4,r3,r4,r5,j3']
   ·rcases List.mem_append.mp hp with hp | hp
    ·exact .inl (List.mem_of_mem_take hp)
    ·rcases List.mem_append.mp hp with hp | hp
     ·exact .inr (List.mem_singleton.mp hp)
     ·exact .inl (List.mem_of_mem_drop hp)
def sgnX:Str:=" !#$&'()*+,-./0123456789:;<=>?@ABCDEFGHIJKLMNOPQRSTUVWXYZ[]^_`abcdefghijklmnopqrstuvwxyz{|}~"++"\""++"\\" ++ "\n"
theorem zIF:sgnX.length=95/\∀ c∈sgnX.cps.toList,c < 128:=by decide +kernel
theorem zHq:F_11 []=some (.v (.a (.str sgnX)),[]):=by kernel_rfl
theorem zIY(a b:Int):∃ c a' b',c < 128/\F_12 [.l [iT a,iT b]]=some (.v (.a (.str ⟨#[c]⟩)),[iT a',iT b']):=by
 obtain⟨h1,h2⟩:=zIF
 obtain⟨k,a1,b1,hk,e⟩:=zAE a b 95 (by decide) (by decide)
 have e':F_4 [.l [iT a,iT b],.v (.a (.int 95))]=some (.v (iT (k:Int)),[iT a1,iT b1]):=e
 have hl:sgnX.cps.toList.length=95:=by rw[Array.length_toList]; exact h1
 have so:=zHq
 obtain⟨c,hc⟩:∃ c,sgnX.cps.toList[k]?=some c:=⟨_,List.getElem?_eq_getElem (by omega)⟩
 refine⟨c,a1,b1,h2 c (List.mem_of_getElem? hc),?_⟩
 have gz:sgnX.length<=sizeLine:=line_big (by omega)
 have ix:∀ Γ:En,ixS Γ (.v (.a (.str sgnX))) (.v (.a (.int (k:Int))))=some (.v (.a (.str ⟨#[c]⟩))):=fun Γ=>by
  show (if sgnX.length<=sizeLine then (atI sgnX.cps.toList (k:Int)).map fun c=>S.v (.a (.str ⟨#[c]⟩)) else none)=_
  rw[if_pos gz,show atI sgnX.cps.toList (k:Int)=sgnX.cps.toList[k]? from atI_nat',hc]; rfl
 have ln:∀ Γ:En,lenS Γ [.v (.a (.str sgnX))]=some (.v (.a (.int 95))):=fun Γ=>by
  have:lenS Γ [.v (.a (.str sgnX))]=some (.v (.a (.int (sgnX.length:Int)))):=by simp[lenS,gz]
  rw[this,h1]; rfl
 generalize sgnX=SX at *
 simp only[iT]at *
 simp[F_12,fnD,d_12,so,ln,e',ix]
theorem zHE(x:Str)(k:Nat)(h:k<=x.length):(sliceT x none (some (k:Int))).cps.toList=x.cps.toList.take k:=by
 have e:sliceT x none (some (k:Int))=StrLaws.sliceText x (some ((0:Nat):Int)) (some (k:Int)):=by
  show StrLaws.sliceText x none (some (k:Int))=_
  unfold StrLaws.sliceText
  rw[StrLaws.sliceIdx_none_lo]; rfl
 rw[e,StrLaws.sliceText_nat x (Nat.zero_le _) h]
 simp
theorem zHA(x:Str)(k:Nat):(sliceT x (some (k:Int)) none).cps.toList=x.cps.toList.drop k:=by
 have hl:x.cps.toList.length=x.length:=Array.length_toList
 by_cases h:k<=x.length
 ·have e:sliceT x (some (k:Int)) none=StrLaws.sliceText x (some (k:Int)) (some (x.length:Int)):=by
   show StrLaws.sliceText x (some (k:Int)) none=_
   unfold StrLaws.sliceText
   rw[StrLaws.sliceIdx_none_hi]
  rw[e,StrLaws.sliceText_nat x h (Nat.le_refl _)]
  show ((x.cps.toList.drop k).take (x.length - k)).toArray.toList=_
  rw[List.toList_toArray,List.take_of_length_le (by rw[List.length_drop]; omega)]
 ·have e:sliceT x (some (k:Int)) none=StrLaws.sliceText x (some (x.length:Int)) (some (x.length:Int)):=by
   show StrLaws.sliceText x (some (k:Int)) none=_
   unfold StrLaws.sliceText
   rw[PyProof.Rows.sliceIdx_lo_beyond x.length (by omega),StrLaws.sliceIdx_none_hi]
  rw[e,StrLaws.sliceText_nat x (Nat.le_refl _) (Nat.le_refl _),List.drop_of_length_le (by omega)]
  simp[Str.length]at h ⊢
  try omega
structure OtherOk(x y:Str):Prop where
 asc:∀ c∈y.cps.toList,c < 128
 len:y.length<=4 * x.length+100
 sg:(∀ j L,Sg (j+1) L x.cps.toList->Sg j (L+1) y.cps.toList)\/∀ a,9<=a->Sg 0 a x.cps.toList->Sg 0 a y.cps.toList
theorem zAU{x:Str}{ps:List Str}(h:∀ p∈ps,FromOk x p)(ht:tot ps<=4 * x.length+100):OtherOk x (Str.join ⟨#[10]⟩ ps):=by
 have f:=from_join (c:=10) rfl h
 exact⟨f.asc,Nat.le_trans (zBi 10 ps) ht,.inr f.sg⟩
def rowL:List Str:=["","cups 3 questions 2","0 012 012"," "]
theorem zIh{z:Str}:∀ w∈rowL,w.length<=18/\FromOk z w:=by
 intro w hw
 simp only[rowL,List.mem_cons,List.not_mem_nil,or_false]at hw
 rcases hw with rfl | rfl | rfl | rfl
 ·exact⟨by decide,zAJ (by decide +kernel) (by decide)⟩
 ·refine⟨by decide,?_⟩
  have e:("cups 3 questions 2":Str)=Str.join ⟨#[32]⟩ ([("cups":Str),("3":Str),("questions":Str),("2":Str)]:List Str):=by decide +kernel
  rw[e]
  refine from_join rfl fun p hp=>?_
  have:∀ p∈([("cups":Str),("3":Str),("questions":Str),("2":Str)]:List Str),p.length<=9/\∀ c∈p.cps.toList,c < 128:=by decide +kernel
  exact zAJ (this p hp).2 (this p hp).1
 ·exact⟨by decide,zAJ (by decide +kernel) (by decide)⟩
 ·exact⟨by decide,zAJ (by decide +kernel) (by decide)⟩
theorem zCh(ps:List Str)(i:Nat)(w:Str):tot (ps.set i w)<=tot ps+w.length:=by
 induction ps generalizing i with
 | nil=>simp[tot]
 | cons p r ih =>
  cases i with
  | zero=>simp only[tot,List.set_cons_zero,List.map_cons,List.sum_cons,List.length_cons]; omega
  | succ i =>
   have:=ih i
   simp only[tot,List.set_cons_succ,List.map_cons,List.sum_cons,List.length_cons]at this ⊢
   omega
theorem zEe{ps:List Str}{w:Str}(h:w∈ps):w.length+1<=tot ps:=by
 induction ps with
 | nil=>exact nomatch h
 | cons p r ih =>
  simp only[tot,List.map_cons,List.sum_cons,List.length_cons]at ih ⊢
  rcases List.mem_cons.mp h with rfl | h
  ·omega
  ·have:=ih h
   omega
theorem zB1{ps:List Str}{i:Nat}{w:Str}(h:ps[i]?=some w):atI (strsT ps) (i:Int)=some (.a (.str w)):=by
 rw[atI_nat']
 unfold strsT
 rw[List.getElem?_map,h]; rfl
theorem zBy(ps:List Str)(i:Nat)(w:Str):(strsT ps).set i (.a (.str w))=strsT (ps.set i w):=by simp[strsT,List.map_set]
theorem zA1{n k:Nat}(h:k < n):ixN n (k:Int)=some k:=by
 unfold ixN
 have:¬ ((k:Int) < 0):=by omega
 simp[this]
 omega
theorem zAP(g0 g1:Option G)(Γ':En)(z:Str)(L:List T):joinS (g0::g1::some (.l L)::Γ') [.v (.a (.str z)),.s 2]=joinS [] [.v (.a (.str z)),.l L]:=rfl
theorem zHR(a b:Int)(x:Str)(ha:∀ c∈x.cps.toList,c < 128)(hx:x.length<=9000):∃ y a' b',OtherOk x y/\F_13 [.l [iT a,iT b],.v (.a (.str x))]=some (.v (.a (.str y)),[iT a',iT b']):=by
 have fxx:FromOk x x:=⟨ha,fun _ _ h=>h⟩
 have ht:=zCv x 10
 have hne:=zA6 x 10
 have sp:=fun Γ=>splS (rfl:Txt.split x "\n" = _) rfl (by omega) (by have : (Txt.split x "\n").length<=x.length+1:=split_len x 10; omega) Γ
 have fr:∀ w∈Txt.split x (⟨#[10]⟩:Str),FromOk x w:=fun w hw=>from_split fxx hw
 have hb:("\n":Str)=⟨#[10]⟩:=rfl
 rw[hb]at sp
 generalize Txt.split x (⟨#[10]⟩:Str)=ws at *
 have hl:=zAQ ws
 have hpos:0 < ws.length:=by
  cases ws with
  | nil=>exact absurd rfl hne
  | cons _ _=>simp
 obtain⟨s,a1,b1,hs,e1⟩:=zAE a b ws.length hpos (by omega)
 obtain⟨t,a2,b2,ht2,e2⟩:=zAE a1 b1 (x.length+1) (by omega) (by omega)
 obtain⟨f,a3,b3,hf,e3⟩:=zAE a2 b2 9 (by decide) (by decide)
 have e2':F_4 [.l [iT a1,iT b1],.v (.a (.int ((x.length:Int)+1)))]=some (.v (iT (t:Int)),[iT a2,iT b2]):=e2
 have e3':F_4 [.l [iT a2,iT b2],.v (.a (.int 9))]=some (.v (iT (f:Int)),[iT a3,iT b3]):=e3
 have t1:=zBe ws s
 have t2:=zDV ws s
 have t3:=zD4 ws (s+1)
 have c1:=zBW ws s
 have c2:=zCF ws s
 have c3:=zCA ws s
 have c4:=zBU ws s
 have hln:(strsT ws).length=ws.length:=by simp[strsT]
 have sl:∀ ps:List Str,(strsT ps).length=ps.length:=fun ps=>by simp[strsT]
 have lt1:=zAQ (ws.take s)
 have lt2:=zAQ (ws.drop s)
 have lt3:=zAQ (ws.take (s+1))
 have lt4:=zAQ (ws.drop (s+1))
 have gl:ws.length<=sizeLine:=line_big (by omega)
 have gx:x.length<=sizeLine:=line_big (by omega)
 have ln:∀ Γ:En,lenS Γ [.v (.a (.str x))]=some (.v (.a (.int (x.length:Int)))):=fun Γ=>by simp[lenS,gx]
 have g1:(1:Nat)<=sizeLine:=by decide
 have g4:(4:Nat)<=sizeLine:=by decide
 have g2:(2:Nat)<=sizeLine:=by decide
 have q1:(strsT (ws.take s)).length<=sizeLine:=line_big (by rw[sl]; omega)
 have q2:(strsT (ws.drop s)).length<=sizeLine:=line_big (by rw[sl]; omega)
 have q3:(strsT (ws.take (s+1))).length<=sizeLine:=line_big (by rw[sl]; omega)
 have q4:(strsT (ws.drop (s+1))).length<=sizeLine:=line_big (by rw[sl]; omega)
 have r1:(strsT (ws.take s)).length+(strsT (ws.drop (s+1))).length<=sizeLine:=line_big (by rw[sl,sl]; omega)
 have r2:(strsT (ws.take (s+1))).length+(strsT (ws.drop s)).length<=sizeLine:=line_big (by rw[sl,sl]; omega)
 have r3:(strsT (ws.take s)).length+1<=sizeLine:=line_big (by rw[sl]; omega)
 have r4:(strsT (ws.take s)).length+1+(strsT (ws.drop s)).length<=sizeLine:=line_big (by rw[sl,sl]; omega)
 have r5:(strsT (ws.take s)).length+((strsT (ws.drop s)).length+1)<=sizeLine:=line_big (by rw[sl,sl]; omega)
 have gL:ws.length < sizeLine:=line_lt (by omega)
 have jn:=fun (ps:List Str) (h:tot ps<=1000000) (Γ:En)=>zBD Γ 10 ps h
 obtain⟨ra,hra⟩:∃ r,ws[s]?=some r:=⟨_,List.getElem?_eq_getElem hs⟩
 have mra:=List.mem_of_getElem? hra
 have tra:=zEe mra
 have ia:=zB1 hra
 have mtake:∀ {k:Nat} {p:Str},p∈ws.take k->FromOk x p:=fun hp=>fr _ (List.mem_of_mem_take hp)
 have mdrop:∀ {k:Nat} {p:Str},p∈ws.drop k->FromOk x p:=fun hp=>fr _ (List.mem_of_mem_drop hp)
 have cases9:f=0\/f=1\/f=2\/f=3\/(f=4\/f=5)\/f=6\/(f=7\/f=8):=by omega
 rcases cases9 with rfl | rfl | rfl | rfl | h45 | rfl | h78
 ·-- a row left out
  have tt:tot (ws.take s++ws.drop (s+1))<=4 * x.length+100:=by rw[zAL]; omega
  have j:=jn (ws.take s++ws.drop (s+1)) (by omega)
  rw[← zAR]at j
  refine⟨_,a3,b3,zAU (fun p hp=>(List.mem_append.mp hp).elim mtake mdrop) tt,?_⟩
  generalize Str.join ⟨#[10]⟩ (ws.take s++ws.drop (s+1))=JJ at *
  generalize strsT (ws.take s)=A1 at *
  generalize strsT (ws.drop (s+1))=A2 at *
  generalize strsT ws=WS at *
  simp only[iT]at *
  simp[F_13,fnD,d_13,-splitS_s,-zAH,zAP,hb,sp,hln,gl,ln,gd,e1,e2',e3',c1,c2,q1,q4,r1,j]
 ·-- twice
  have tt:tot (ws.take (s+1)++ws.drop s)<=4 * x.length+100:=by rw[zAL]; omega
  have j:=jn (ws.take (s+1)++ws.drop s) (by omega)
  rw[← zAR]at j
  refine⟨_,a3,b3,zAU (fun p hp=>(List.mem_append.mp hp).elim mtake mdrop) tt,?_⟩
  generalize Str.join ⟨#[10]⟩ (ws.take (s+1)++ws.drop s)=JJ at *
  generalize strsT (ws.take (s+1))=A1 at *
  generalize strsT (ws.drop s)=A2 at *
  generalize strsT ws=WS at *
  simp only[iT]at *
  simp[F_13,fnD,d_13,-splitS_s,-zAH,zAP,hb,sp,hln,gl,ln,gd,e1,e2',e3',c3,c4,q2,q3,r2,j]
 ·-- put in
  obtain⟨m,a4,b4,hm,e4⟩:=zAE a3 b3 4 (by decide) (by decide)
  have e4':F_4 [.l [iT a3,iT b3],.v (.a (.int 4))]=some (.v (iT (m:Int)),[iT a4,iT b4]):=e4
  obtain⟨w,hw⟩:∃ w,rowL[m]?=some w:=⟨_,List.getElem?_eq_getElem (show m < rowL.length from hm)⟩
  obtain⟨w1,w2⟩:=zIh (z:=x) w (List.mem_of_getElem? hw)
  have iw:atI ([.a (.str ""),.a (.str "cups 3 questions 2"),.a (.str "0 012 012"),.a (.str " ")]:List T) (m:Int)=some (.a (.str w)):=zB1 hw
  have tw:tot [w]=w.length+1:=by show w.length+0+1=_; omega
  have tt:tot (ws.take s++([w]++ws.drop s))<=4 * x.length+100:=by rw[zAL,zAL]; omega
  have j:=jn (ws.take s++([w]++ws.drop s)) (by omega)
  rw[← zAR,← zAR]at j
  have j':∀ Γ:En,joinS Γ [.v (.a (.str ⟨#[10]⟩)),.l (strsT (ws.take s)++T.a (.str w)::strsT (ws.drop s))]=some (.v (.a (.str (Str.join ⟨#[10]⟩ (ws.take s++([w]++ws.drop s)))))):=j
  refine⟨_,a4,b4,zAU (fun p hp=>?_) tt,?_⟩
  ·rcases List.mem_append.mp hp with hp | hp
   ·exact mtake hp
   ·rcases List.mem_append.mp hp with hp | hp
    ·rw[List.mem_singleton.mp hp]; exact w2
    ·exact mdrop hp
  ·generalize Str.join ⟨#[10]⟩ (ws.take s++([w]++ws.drop s))=JJ at *
   generalize strsT (ws.take s)=A1 at *
   generalize strsT (ws.drop s)=A2 at *
   generalize strsT ws=WS at *
   simp only[iT]at *
   simp[F_13,fnD,d_13,-splitS_s,-zAH,zAP,hb,sp,hln,gl,ln,gd,e1,e2',e3',e4',g4,iw,c1,c4,g1,q1,q2,r3,r4,r5,j']
 ·-- exchanged
  obtain⟨o,a4,b4,ho,e4⟩:=zAE a3 b3 ws.length hpos (by omega)
  obtain⟨ro,hro⟩:∃ r,ws[o]?=some r:=⟨_,List.getElem?_eq_getElem ho⟩
  have mro:=List.mem_of_getElem? hro
  have tro:=zEe mro
  have io:=zB1 hro
  have x1:=zA1 hs
  have x2:=zA1 ho
  have s1:=zBy ws s ro
  have s2:=zBy (ws.set s ro) o ra
  have u1:=zCh ws s ro
  have u2:=zCh (ws.set s ro) o ra
  have tt:tot ((ws.set s ro).set o ra)<=4 * x.length+100:=by omega
  have j:=jn ((ws.set s ro).set o ra) (by omega)
  have hl2:(strsT (ws.set s ro)).length=ws.length:=by simp[strsT]
  refine⟨_,a4,b4,zAU (fun p hp=>?_) tt,?_⟩
  ·rcases List.mem_or_eq_of_mem_set hp with hp | rfl
   ·rcases List.mem_or_eq_of_mem_set hp with hp | rfl
    ·exact fr _ hp
    ·exact fr _ mro
   ·exact fr _ mra
  ·generalize Str.join ⟨#[10]⟩ ((ws.set s ro).set o ra)=JJ at *
   generalize strsT ((ws.set s ro).set o ra)=W2 at *
   generalize strsT (ws.set s ro)=W1 at *
   generalize strsT ws=WS at *
   simp only[iT]at *
   simp[F_13,fnD,d_13,-splitS_s,-zAH,zAP,hb,sp,hln,gl,ln,gd,e1,e2',e3',e4,ia,io,g2,x1,x2,s1,s2,hl2,isLs,j]
 ·-- a word of a row
  obtain⟨y,a4,b4,ey,fy,ly⟩:=zH4 a3 b3 ra (by omega)
  have x1:=zA1 hs
  have s1:=zBy ws s y
  have u1:=zCh ws s y
  have tt:tot (ws.set s y)<=4 * x.length+100:=by omega
  have j:=jn (ws.set s y) (by omega)
  refine⟨_,a4,b4,zAU (fun p hp=>?_) tt,?_⟩
  ·rcases List.mem_or_eq_of_mem_set hp with hp | rfl
   ·exact fr _ hp
   ·exact fy x (fr _ mra)
  ·generalize Str.join ⟨#[10]⟩ (ws.set s y)=JJ at *
   generalize strsT (ws.set s y)=W1 at *
   generalize strsT ws=WS at *
   rcases h45 with rfl | rfl
   ·simp only[iT]at *
    simp[F_13,fnD,d_13,-splitS_s,-zAH,zAP,hb,sp,hln,gl,ln,gd,e1,e2',e3',ia,ey,x1,s1,zC8,isLs,j]
   ·simp only[iT]at *
    simp[F_13,fnD,d_13,-splitS_s,-zAH,zAP,hb,sp,hln,gl,ln,gd,e1,e2',e3',ia,ey,x1,s1,zC8,isLs,j]
 ·-- a line feed at the end
  have te:tot [("":Str)]=1:=rfl
  have tt:tot (ws++[("":Str)])<=4 * x.length+100:=by rw[zAL]; omega
  have j:=jn (ws++[("":Str)]) (by omega)
  rw[← zAR]at j
  have j':∀ Γ:En,joinS Γ [.v (.a (.str ⟨#[10]⟩)),.l (strsT ws++[T.a (.str "")])]=some (.v (.a (.str (Str.join ⟨#[10]⟩ (ws++[("":Str)]))))):=j
  have gq:(strsT ws).length+1<=sizeLine:=by rw[hln]; exact gL
  have gq':(strsT ws).length < sizeLine:=by rw[hln]; exact gL
  refine⟨_,a3,b3,zAU (fun p hp=>?_) tt,?_⟩
  ·rcases List.mem_append.mp hp with hp | hp
   ·exact fr _ hp
   ·rw[List.mem_singleton.mp hp]; exact zAJ (by decide +kernel) (by decide)
  ·generalize Str.join ⟨#[10]⟩ (ws++[("":Str)])=JJ at *
   generalize strsT ws=WS at *
   simp only[iT]at *
   simp[F_13,fnD,d_13,-splitS_s,-zAH,zAP,hb,sp,hln,gl,ln,gd,e1,e2',e3',gL,hAppend,j']
 ·-- any sign
  obtain⟨c,a4,b4,hc,e4⟩:=zIY a3 b3
  obtain⟨d,hd,ed⟩:∃ d:Nat,(d=t\/d=t+1)/\(t:Int)+(f:Int) - 7=(d:Int):=by
   rcases h78 with rfl | rfl
   ·exact⟨t,.inl rfl,by omega⟩
   ·exact⟨t+1,.inr rfl,by omega⟩
  have k1:=zHE x t (by omega)
  have k2:=zHA x d
  have xl:x.cps.toList.length=x.length:=Array.length_toList
  have z1:(sliceT x none (some (t:Int))).length<=x.length:=by
   have:(sliceT x none (some (t:Int))).cps.toList.length=_:=congrArg List.length k1
   rw[List.length_take,Array.length_toList]at this
   show (sliceT x none (some (t:Int))).cps.size<=_
   omega
  have z2:(sliceT x (some (d:Int)) none).length<=x.length:=by
   have:(sliceT x (some (d:Int)) none).cps.toList.length=_:=congrArg List.length k2
   rw[List.length_drop,Array.length_toList]at this
   show (sliceT x (some (d:Int)) none).cps.size<=_
   omega
  have zc:(⟨#[c]⟩:Str).length=1:=rfl
  have yc:(sliceT x none (some (t:Int))++(⟨#[c]⟩:Str)++sliceT x (some (d:Int)) none).cps.toList=x.cps.toList.take t++c::x.cps.toList.drop d:=by
   rw[zAb,zAb,k1,k2]
   simp
  refine⟨sliceT x none (some (t:Int))++(⟨#[c]⟩:Str)++sliceT x (some (d:Int)) none,a4,b4,⟨fun e he=>?_,?_,.inl fun j L h=>?_⟩,?_⟩
  ·rw[yc]at he
   rcases List.mem_append.mp he with he | he
   ·exact ha e (List.mem_of_mem_take he)
   ·rcases List.mem_cons.mp he with rfl | he
    ·exact hc
    ·exact ha e (List.mem_of_mem_drop he)
  ·rw[Str.length_append,Str.length_append]; omega
  ·rw[yc]
   rcases hd with rfl | rfl
   ·exact Sg.sign (ds:=[]) (by simp) (by rw[List.append_nil,List.take_append_drop]; exact h)
   ·refine Sg.sign (ds:=(x.cps.toList.drop t).take 1) (by rw[List.length_take]; omega) ?_
    rw[List.append_assoc,← List.drop_drop,List.take_append_drop,List.take_append_drop]; exact h
  ·have gz1:(sliceT x none (some (t:Int))).length<=sizeLine:=line_big (by omega)
   have gz2:(sliceT x (some (d:Int)) none).length<=sizeLine:=line_big (by omega)
   have gy1:(sliceT x none (some (t:Int))).length+(⟨#[c]⟩:Str).length<=sizeLine:=line_big (by omega)
   have gy2:(sliceT x none (some (t:Int))++(⟨#[c]⟩:Str)).length+(sliceT x (some (d:Int)) none).length<=sizeLine:=line_big (by rw[Str.length_append]; omega)
   rcases h78 with rfl | rfl
   ·have ed':(t:Int)+7 - 7=(d:Int):=ed
    generalize strsT ws=WS at *
    simp only[iT]at *
    simp[F_13,fnD,d_13,-splitS_s,-zAH,zAP,hb,sp,hln,gl,ln,gd,e1,e2',e3',e4,ed',gz1,gz2,gy1,gy2]
   ·have ed':(t:Int)+8 - 7=(d:Int):=ed
    generalize strsT ws=WS at *
    simp only[iT]at *
    simp[F_13,fnD,d_13,-splitS_s,-zAH,zAP,hb,sp,hln,gl,ln,gd,e1,e2',e3',e4,ed',gz1,gz2,gy1,gy2]
structure Tq0(L:Nat)(x:Str):Prop where
 asc:∀ c∈x.cps.toList,c < 128
 len:x.length<=L
def Tq:Nat->Str->Prop
 | 0,x=>Tq0 111 x/\Sg 0 9 x.cps.toList
 | 1,x=>Tq0 544 x/\Sg 0 20 x.cps.toList/\Sg 1 30 x.cps.toList/\Sg 2 40 x.cps.toList
 | 2,x=>Tq0 2276 x/\Sg 0 31 x.cps.toList/\Sg 1 41 x.cps.toList
 | _,x=>Tq0 9204 x/\Sg 0 42 x.cps.toList
theorem zCi:∀ {i:Nat} {x:Str},Tq i x->TextW x
 | 0,x,h=>zBB h.1.asc (by have:=h.1.len; omega) (h.2.mono (by decide))
 | 1,x,h=>zBB h.1.asc (by have:=h.1.len; omega) (h.2.1.mono (by decide))
 | 2,x,h=>zBB h.1.asc (by have:=h.1.len; omega) (h.2.1.mono (by decide))
 | _+3,x,h=>zBB h.1.asc (by have:=h.1.len; omega) h.2
theorem zJI:∀ {i:Nat} {x:Str},i < 3->Tq i x->(∀ c∈x.cps.toList,c < 128)/\x.length<=9000
 | 0,x,_,h=>⟨h.1.asc,by have:=h.1.len; omega⟩
 | 1,x,_,h=>⟨h.1.asc,by have:=h.1.len; omega⟩
 | 2,x,_,h=>⟨h.1.asc,by have:=h.1.len; omega⟩
 | _+3,x,h,_=>by omega
theorem zI6:∀ {i:Nat} {x y:Str},i < 3->Tq i x->OtherOk x y->Tq (i+1) y
 | 0,x,y,_,⟨h,s⟩,o=>by
  refine⟨⟨o.asc,by have:=o.len; have:=h.len; omega⟩,?_⟩
  rcases o.sg with g | g
  ·exact⟨g 0 19 (s.all 1),g 1 29 (s.all 2),g 2 39 (s.all 3)⟩
  ·have q:=g 9 (by decide) s
   exact⟨q.mono (by decide),(q.all 1).mono (by decide),(q.all 2).mono (by decide)⟩
 | 1,x,y,_,⟨h,s0,s1,s2⟩,o=>by
  refine⟨⟨o.asc,by have:=o.len; have:=h.len; omega⟩,?_⟩
  rcases o.sg with g | g
  ·exact⟨g 0 30 s1,g 1 40 s2⟩
  ·have q:=g 20 (by decide) s0
   exact⟨q.mono (by decide),q.all 1⟩
 | 2,x,y,_,⟨h,s0,s1⟩,o=>by
  refine⟨⟨o.asc,by have:=o.len; have:=h.len; omega⟩,?_⟩
  rcases o.sg with g | g
  ·exact g 0 41 s1
  ·exact (g 31 (by decide) s0).mono (by decide)
 | _+3,_,_,h,_,_=>by omega
theorem zAo{z x:Str}(h:x.length<=9)(h2:∀ c∈x.cps.toList,48<=c/\c < 58):FromOk z x:=zAJ (fun c hc=>by have:=h2 c hc; omega) h
theorem zEA(t:List Nat)(h:∀ k∈t,k < 10):∀ c∈(rowS t).cps.toList,48<=c/\c < 58:=fun c hc=>by
 rw[row_cps t h]at hc
 obtain⟨k,hk,rfl⟩:=List.mem_map.mp hc
 have:=h k hk
 omega
theorem head_from{z:Str}(n q:Nat)(hn:n < 11)(hq:q < 11):FromOk z (headS n q):=by
 have e:headS n q=Str.join ⟨#[32]⟩ ([("cups":Str),numS n,("questions":Str),numS q]:List Str):=by
  show headS n q=("cups":Str)++(" ":Str)++(numS n++(" ":Str)++(("questions":Str)++(" ":Str)++numS q))
  unfold headS
  refine zBb ?_
  simp only[zAb,List.append_assoc]
  have a:("cups ":Str).cps.toList=("cups":Str).cps.toList++(" ":Str).cps.toList:=by decide +kernel
  have b:(" questions ":Str).cps.toList=(" ":Str).cps.toList++(("questions":Str).cps.toList++(" ":Str).cps.toList):=by decide +kernel
  rw[a,b]
  simp only[List.append_assoc]
 rw[e]
 refine from_join rfl fun p hp=>?_
 simp only[List.mem_cons,List.not_mem_nil,or_false]at hp
 rcases hp with rfl | rfl | rfl | rfl
 ·exact zAJ (by decide +kernel) (by decide)
 ·exact zAo (Nat.le_trans (num_len n hn) (by decide)) (zCf n hn)
 ·exact zAJ (by decide +kernel) (by decide)
 ·exact zAo (Nat.le_trans (num_len q hq) (by decide)) (zCf q hq)
theorem step_from{z:Str}{n qs:Nat}{s:Stp}(h:StepD n qs s)(hn:n<=5)(hq:qs<=10):FromOk z (stepS s):=by
 have hl:=h.len hn hq
 have e:stepS s=Str.join ⟨#[32]⟩ [numS s.1,rowS s.2.1,rowS s.2.2]:=by
  show stepS s=numS s.1++(" ":Str)++(rowS s.2.1++(" ":Str)++rowS s.2.2)
  unfold stepS
  refine zBb ?_
  simp only[zAb,List.append_assoc]
 rw[e]
 refine from_join rfl fun p hp=>?_
 simp only[List.mem_cons,List.not_mem_nil,or_false]at hp
 rcases hp with rfl | rfl | rfl
 ·exact zAo (Nat.le_trans hl.a (by decide)) (zCf _ (by have:=h.q; omega))
 ·exact zAo (Nat.le_trans hl.y (by decide)) (zEA _ (isT_small h.y hn))
 ·exact zAo (Nat.le_trans hl.z (by decide)) (zEA _ (isT_small h.z hn))
theorem zIM{n q:Nat}(hn:n<=5)(hq:q<=10)(st:List Stp)(h:StOk n q st)(hl:st.length<=6):Tq 0 (textS n q st):=by
 have f:FromOk Str.empty (textS n q st):=by
  unfold textS
  rw[show Txt.join "\n" (rowsS n q st) = Str.join "\n" (rowsS n q st) from StrLaws.glued_eq_join _ _]
  refine from_join (c:=10) rfl fun p hp=>?_
  rcases List.mem_cons.mp hp with rfl | hp
  ·exact head_from n q (by omega) (by omega)
  ·obtain⟨s,hs,rfl⟩:=List.mem_map.mp hp
   exact step_from (stepD_of h hs) hn hq
 refine⟨⟨f.asc,?_⟩,f.sg 9 (by decide) (Sg.len (by show 0<=9; decide) 0)⟩
 unfold textS
 rw[show Txt.join "\n" (rowsS n q st) = Str.join "\n" (rowsS n q st) from StrLaws.glued_eq_join _ _]
 refine Nat.le_trans (StrLaws.join_length_le _ _) ?_
 have a:=rows_sum hn hq st fun s hs=>stepD_of h hs
 have b:=head_len n q (by omega) (by omega)
 show (headS n q).length+((st.map stepS).map (·.length)).sum+((st.map stepS).length+1) * 1<=_
 rw[List.length_map]
 omega
theorem zCn(x0 x1 x3 x4 x5 x6 x7:Option G):∀ (ks:List T) (i:Nat) (a b:Int) (x:Str) (o9:Option G),i+ks.length<=3->Tq i x->∃ y a' b' o9',Tq (i+ks.length) y /\
  forD (gdName 9) d_law_b2 ks [x0,x1,some (.l [iT a,iT b]),x3,x4,x5,x6,x7,some (.v (.a (.str x))),o9]=some (.nx [x0,x1,some (.l [iT a',iT b']),x3,x4,x5,x6,x7,some (.v (.a (.str y))),o9'])
 | [],i,a,b,x,o9,_,h=>⟨x,a,b,o9,h,by rw[forD_nil]⟩
 | k::r,i,a,b,x,o9,hi,h=>by
  simp only[List.length_cons]at hi
  obtain⟨h1,h2⟩:=zJI (by omega) h
  obtain⟨y,a1,b1,ho,e⟩:=zHR a b x h1 h2
  have t:d_law_b2 [x0,x1,some (.l [iT a,iT b]),x3,x4,x5,x6,x7,some (.v (.a (.str x))),some (.v k)]=some (.nx [x0,x1,some (.l [iT a1,iT b1]),x3,x4,x5,x6,x7,some (.v (.a (.str y))),some (.v k)]):=by
   simp only[iT]at *
   simp[d_law_b2,e]
  obtain⟨z,a2,b2,o,hz,e2⟩:=zCn x0 x1 x3 x4 x5 x6 x7 r (i+1) a1 b1 y (some (.v k)) (by omega) (zI6 (by omega) h ho)
  refine⟨z,a2,b2,o,by rw[List.length_cons,show i+(r.length+1)=i+1+r.length by omega]; exact hz,?_⟩
  rw[forD_step (Γ1:=[x0,x1,some (.l [iT a,iT b]),x3,x4,x5,x6,x7,some (.v (.a (.str x))),some (.v k)]) rfl t]
  exact e2
theorem zGF(x0 x1 x3 x4:Option G)(g:Str)(hg:Tq 0 g)(a b:Int)(ts:List Str)(ht:∀ t∈ts,TextW t)(hl:ts.length<=100)(k:T)(o8 o9:Option G):∃ y a' b' o9',TextW y /\
  d_law_b3 [x0,x1,some (.l [iT a,iT b]),x3,x4,some (.v (.a (.str g))),some (.l (strsT ts)),some (.v k),o8,o9]=some (.nx [x0,x1,some (.l [iT a',iT b']),x3,x4,some (.v (.a (.str g))),some (.l (strsT (ts++[y,g]))),some (.v k),some (.v (.a (.str y))),o9']):=by
 obtain⟨m,a1,b1,hm,e1⟩:=zAE a b 3 (by decide) (by decide)
 have e1':F_4 [.l [iT a,iT b],.v (.a (.int 3))]=some (.v (iT (m:Int)),[iT a1,iT b1]):=e1
 have hlen:(rngT 0 (1+m)).length=1+m:=by simp[rngT]
 obtain⟨y,a2,b2,p9,hy,e2⟩:=zCn x0 x1 x3 x4 (some (.v (.a (.str g)))) (some (.l (strsT ts))) (some (.v k)) (rngT 0 (1+m)) 0 a1 b1 g o9 (by rw[hlen]; omega) hg
 refine⟨y,a2,b2,p9,zCi hy,?_⟩
 have r1:=zAS (1+m) (by omega)
 have r1':rngS [.v (.a (.int (1+(m:Int))))]=some (rngT 0 (1+m)):=by
  have:((1+m:Nat):Int)=1+(m:Int):=by omega
  rw[this]at r1; exact r1
 have g2:(2:Nat)<=sizeLine:=by decide
 have gt:(strsT ts).length+2<=sizeLine:=line_big (by simp[strsT]; omega)
 have es:strsT (ts++[y,g])=strsT ts++[T.a (.str y),T.a (.str g)]:=by simp[strsT]
 rw[es]
 generalize strsT ts=TS at *
 generalize rngT 0 (1+m)=RG at *
 simp only[iT]at *
 simp[d_law_b3,e1',r1',e2,gd,g2,gt]
theorem zDI(x0 x1 x3 x4:Option G)(g:Str)(hg:Tq 0 g):∀ (ks:List T) (a b:Int) (ts:List Str) (o7 o8 o9:Option G),(∀ t∈ts,TextW t)->ts.length+2 * ks.length<=100->∃ ts' a' b' o7' o8' o9',(∀ t∈ts',TextW t)/\ts'.length<=100 /\
  forD (gdName 7) d_law_b3 ks [x0,x1,some (.l [iT a,iT b]),x3,x4,some (.v (.a (.str g))),some (.l (strsT ts)),o7,o8,o9]=some (.nx [x0,x1,some (.l [iT a',iT b']),x3,x4,some (.v (.a (.str g))),some (.l (strsT ts')),o7',o8',o9'])
 | [],a,b,ts,o7,o8,o9,h,hl=>⟨ts,a,b,o7,o8,o9,h,by simp at hl; omega,by rw[forD_nil]⟩
 | k::r,a,b,ts,o7,o8,o9,h,hl=>by
  simp only[List.length_cons]at hl
  obtain⟨y,a1,b1,p9,hy,t⟩:=zGF x0 x1 x3 x4 g hg a b ts h (by omega) k o8 o9
  obtain⟨ts',a2,b2,q7,q8,q9,hq,hql,e⟩:=zDI x0 x1 x3 x4 g hg r a1 b1 (ts++[y,g]) (some (.v k)) (some (.v (.a (.str y)))) p9 (fun t ht=>by
   rcases List.mem_append.mp ht with ht | ht
   ·exact h t ht
   ·simp only[List.mem_cons,List.not_mem_nil,or_false]at ht
    rcases ht with rfl | rfl
    ·exact hy
    ·exact zCi hg) (by simp; omega)
  exact⟨ts',a2,b2,q7,q8,q9,hq,hql,by rw[forD_step (Γ1:=[x0,x1,some (.l [iT a,iT b]),x3,x4,some (.v (.a (.str g))),some (.l (strsT ts)),some (.v k),o8,o9]) rfl t]; exact e⟩
theorem zB7(x0 x1 x2 x3 x4 x5 x6 x7 x9:Option G):∀ (ts:List Str) (o8:Option G),(∀ t∈ts,TextW t)->∃ o8',forD (gdName 8) d_law_b1 (strsT ts) [x0,x1,x2,x3,x4,x5,x6,x7,o8,x9]=some (.nx [x0,x1,x2,x3,x4,x5,x6,x7,o8',x9])
 | [],o8,_=>⟨o8,by rw[show strsT []=([]:List T) from rfl,forD_nil]⟩
 | x::r,o8,h=>by
  have hx:=h x List.mem_cons_self
  have e1:=told_any x hx
  have e2:=zIK x hx
  have e3:=zFb x hx
  have t:d_law_b1 [x0,x1,x2,x3,x4,x5,x6,x7,some (.v (.a (.str x))),x9]=some (.nx [x0,x1,x2,x3,x4,x5,x6,x7,some (.v (.a (.str x))),x9]):=by
   generalize toldT (danceIn x)=TT at *
   simp[d_law_b1,e1,e2,e3]
  obtain⟨o,e⟩:=zB7 x0 x1 x2 x3 x4 x5 x6 x7 x9 r (some (.v (.a (.str x)))) fun t ht=>h t (List.mem_cons_of_mem _ ht)
  refine⟨o,?_⟩
  rw[show strsT (x::r)=T.a (.str x)::strsT r from rfl,forD_step (Γ1:=[x0,x1,x2,x3,x4,x5,x6,x7,some (.v (.a (.str x))),x9]) rfl t]
  exact e
theorem zHk(ns:List Int)(k:Nat)(hk:k < 1000)(o2 o3 o4 o5 o6 o7 o8 o9:Option G):∃ p2 p3 p4 p5 p6 p7 p8 p9,d_law_b4 [some (.k (intsT ns)),some (.v (iT (k:Int))),o2,o3,o4,o5,o6,o7,o8,o9]=some (.nx [some (.k (intsT ns)),some (.v (iT (k:Int))),p2,p3,p4,p5,p6,p7,p8,p9]):=by
 obtain⟨a,b,e0⟩:=zJi ns k (by omega) (by omega)
 obtain⟨c,a1,b1,hc,e1⟩:=zAE a b 3 (by decide) (by decide)
 obtain⟨u,a2,b2,hu,e2⟩:=zAE a1 b1 10 (by decide) (by decide)
 have e1':F_4 [.l [iT a,iT b],.v (.a (.int 3))]=some (.v (iT (c:Int)),[iT a1,iT b1]):=e1
 have e2':F_4 [.l [iT a1,iT b1],.v (.a (.int 10))]=some (.v (iT (u:Int)),[iT a2,iT b2]):=e2
 obtain⟨st,a4,b4,hst,hstl,e4⟩:=zHX a2 b2 (3+c) (1+u) 6 (by omega) (by omega) (by omega) (by omega)
 have e4':F_8 [.l [iT a2,iT b2],.v (.a (.int (3+(c:Int)))),.v (.a (.int (1+(u:Int)))),.v (.a (.int 6))]=some (.v (danT (3+c) (1+u) st),[iT a4,iT b4]):=e4
 have e5:=dance_rows_ok (n:=3+c) (q:=1+u) (by omega) (by omega) st hst (by omega)
 have j:=fun Γ=>text_join (n:=3+c) (q:=1+u) (by omega) (by omega) st hst (by omega) Γ
 have hg:=zIM (n:=3+c) (q:=1+u) (by omega) (by omega) st hst (by omega)
 generalize textS (3+c) (1+u) st=TX at *
 obtain⟨ts,a5,b5,p7,p8,p9,hts,htl,e6⟩:=zDI (some (.k (intsT ns))) (some (.v (iT (k:Int)))) (some (.v (.a (.int (3+(c:Int)))))) (some (.v (.a (.int (1+(u:Int)))))) TX hg (rngT 0 4) a4 b4 [TX] o7 o8 o9 (fun t ht=>by rw[List.mem_singleton.mp ht]; exact zCi hg) (by simp[rngT])
 obtain⟨q8,e7⟩:=zB7 (some (.k (intsT ns))) (some (.v (iT (k:Int)))) (some (.l [iT a5,iT b5])) (some (.v (.a (.int (3+(c:Int)))))) (some (.v (.a (.int (1+(u:Int)))))) (some (.v (.a (.str TX)))) (some (.r (strsT ts))) p7 p9 ts p8 hts
 refine⟨some (.l [iT a5,iT b5]),some (.v (.a (.int (3+(c:Int))))),some (.v (.a (.int (1+(u:Int))))),some (.v (.a (.str TX))),some (.r (strsT ts)),p7,q8,p9,?_⟩
 have r4:rngS [.v (.a (.int 4))]=some (rngT 0 4):=zAS 4 (by decide)
 have g1:(1:Nat)<=sizeLine:=by decide
 have gt:(strsT ts).length<=sizeLine:=line_big (by simp[strsT]; omega)
 have ex:strsT [TX]=[T.a (.str TX)]:=rfl
 rw[ex]at e6
 generalize strsT (rowsS (3+c) (1+u) st)=RW at *
 generalize danT (3+c) (1+u) st=DD at *
 generalize intsT ns=NS at *
 generalize strsT ts=TS at *
 generalize rngT 0 4=RG at *
 simp only[iT]at *
 simp[d_law_b4,-zAH,e0,e1',e2',e4',e5,j,gd,g1,r4,e6,gt]
 exact e7
theorem zDd(ns:List Int):∀ (ks:List Nat) (o1 o2 o3 o4 o5 o6 o7 o8 o9:Option G),(∀ k∈ks,k < 1000)->∃ p1 p2 p3 p4 p5 p6 p7 p8 p9,forD (gdName 1) d_law_b4 (tvT ks) [some (.k (intsT ns)),o1,o2,o3,o4,o5,o6,o7,o8,o9]=some (.nx [some (.k (intsT ns)),p1,p2,p3,p4,p5,p6,p7,p8,p9])
 | [],o1,o2,o3,o4,o5,o6,o7,o8,o9,_=>⟨o1,o2,o3,o4,o5,o6,o7,o8,o9,by rw[show tvT []=([]:List T) from rfl,forD_nil]⟩
 | k::r,o1,o2,o3,o4,o5,o6,o7,o8,o9,h=>by
  obtain⟨p2,p3,p4,p5,p6,p7,p8,p9,t⟩:=zHk ns k (h k List.mem_cons_self) o2 o3 o4 o5 o6 o7 o8 o9
  obtain⟨q1,q2,q3,q4,q5,q6,q7,q8,q9,e⟩:=zDd ns r (some (.v (iT (k:Int)))) p2 p3 p4 p5 p6 p7 p8 p9 fun j hj=>h j (List.mem_cons_of_mem _ hj)
  refine⟨q1,q2,q3,q4,q5,q6,q7,q8,q9,?_⟩
  rw[show tvT (k::r)=iT (k:Int)::tvT r from rfl,forD_step (Γ1:=[some (.k (intsT ns)),some (.v (iT (k:Int))),o2,o3,o4,o5,o6,o7,o8,o9]) rfl t]
  exact e
theorem law_true(ns:List Int)(hns:ns.length<=63):F_law [.k (intsT ns)]=some (.v (.a (.bl true)),[]):=by
 obtain⟨p1,p2,p3,p4,p5,p6,p7,p8,p9,e⟩:=zDd ns (List.range 4) none none none none none none none none none (fun k hk=>by have:=List.mem_range.mp hk; omega)
 rw[← zBd 4]at e
 have r4:rngS [.v (.a (.int 4))]=some (rngT 0 4):=zAS 4 (by decide)
 generalize intsT ns=NS at *
 generalize rngT 0 4=RG at *
 simp[F_law,fnD,d_law,r4,e]
structure Wr(K:PySem.W.Frag)(x:Str)(st:Stmt)(f:Addr):Prop where
 a:nsIn K mainGlobals x=some (some (.ref f))
 F:∃ fd,Fun K x x st f fd
theorem wr_mk{K:PySem.W.Frag}{x:Str}{st:Stmt}{f:Addr}{oc:Value}{od an:Option Addr}{osl:Array (Option Value)}{kV doc pm cdv ct:Value}(a:nsIn K mainGlobals x=some (some (.ref f)))(l:K.lookup f=some ⟨oc,od,.func (fnOf x x (defArgs st) (defBody st) (defScope st) .none kV doc pm an cdv ct),osl⟩)
  (c:PySem.W.codeIn K cdv x=true) (k:PySem.W.keepIn K (.ref f)=true):Wr K x st f:=⟨a,_,zD0 l c k⟩
local macro_rules | `(tactic| walk_at "b") => `(tactic| (intro _ _ _ _ _ _ us hl; first|(obtain⟨_,h⟩:=len1 hl; subst h; exact rfl)|(obtain⟨_,_,h⟩:=len2 hl; subst h; exact rfl)|(obtain⟨_,_,_,h⟩:=len3 hl; subst h; exact rfl)|(obtain⟨_,_,_,_,h⟩:=len4 hl; subst h; exact rfl)))
theorem all_mk{l:PySem.W.OpenLaw}{w:World}{K:PySem.W.Frag}{h:Heap}{mg:Str->Option Value}{fa:Addr}(X:K.In h)(G:h.Ns mainGlobals mg)(hfa:mg "law"=some (.ref fa))
  {f1:Addr} (w1:Wr K "_law_box" st_1 f1)
  {f2:Addr} (w2:Wr K "_law_row_text" st_2 f2)
  {f3:Addr} (w3:Wr K "_law_dance_rows" st_3 f3)
  {f4:Addr} (w4:Wr K "_law_take" st_4 f4)
  {f5:Addr} (w5:Wr K "_law_turning" st_5 f5)
  {f6:Addr} (w6:Wr K "_law_step" st_6 f6)
  {f7:Addr} (w7:Wr K "_law_back" st_7 f7)
  {f8:Addr} (w8:Wr K "_law_dance" st_8 f8)
  {f9:Addr} (w9:Wr K "_law_word" st_9 f9)
  {f10:Addr} (w10:Wr K "_law_row_otherwise" zFB f10)
  {f11:Addr} (w11:Wr K "_law_signs" st_11 f11)
  {f12:Addr} (w12:Wr K "_law_sign" st_12 f12)
  {f13:Addr} (w13:Wr K "_law_otherwise" st_13 f13)
  {f14:Addr} (w14:Wr K "_law_alike" st_0 f14)
  {f15:Addr} (w15:Wr K "read_number" st_14 f15)
  {f16:Addr} (w16:Wr K "read_head" st_15 f16)
  {f17:Addr} (w17:Wr K "from_a_row" st_16 f17)
  {f18:Addr} (w18:Wr K "is_turning_in_a_row" st_17 f18)
  {f19:Addr} (w19:Wr K "read_turning" st_18 f19)
  {f20:Addr} (w20:Wr K "read_step" st_19 f20)
  {f21:Addr} (w21:Wr K "read_dance" st_20 f21)
  {f22:Addr} (w22:Wr K "_law_bad" st_21 f22)
  {f23:Addr} (w23:Wr K "_law_told" st_22 f23)
  {f24:Addr} (w24:Wr K "_law_turning_read" st_23 f24)
  {f25:Addr} (w25:Wr K "_law_dance_read" st_24 f25)
  {f26:Addr} (w26:Wr K "_law_due" st_25 f26)
  {f27:Addr} {od27 an27:Option Addr} {sl27:Array (Option Value)} {oc27 kV27 dc27 pm27 cd27 ct27:Value}
  (a27:nsIn K mainGlobals "law"=some (some (.ref f27))) (l27:K.lookup f27=some ⟨oc27,od27,.func (fnOf "law" "law" (defArgs st_law) (defBody st_law) (defScope st_law) .none kV27 dc27 pm27 an27 cd27 ct27),sl27⟩) (c27:PySem.W.codeIn K cd27 "law"=true) (k27:PySem.W.keepIn K (.ref f27)=true)
  (z1:nsIn K mainGlobals "ValueError"=some none)
  (z2:nsIn K mainGlobals "all"=some none)
  (z3:nsIn K mainGlobals "bool"=some none)
  (z4:nsIn K mainGlobals "enumerate"=some none)
  (z5:nsIn K mainGlobals "int"=some none)
  (z6:nsIn K mainGlobals "isinstance"=some none)
  (z7:nsIn K mainGlobals "len"=some none)
  (z8:nsIn K mainGlobals "list"=some none)
  (z9:nsIn K mainGlobals "range"=some none)
  (z10:nsIn K mainGlobals "sorted"=some none)
  (z11:nsIn K mainGlobals "str"=some none)
  (z12:nsIn K mainGlobals "tuple"=some none)
  (z13:nsIn K mainGlobals "zip"=some none)
  {xc1:Addr} (xa1:nsIn K mainGlobals "BadText"=some (some (.ref xc1)))
  {xc2:Addr} (xa2:nsIn K mainGlobals "CupError"=some (some (.ref xc2)))
  {xc3:Addr} (xa3:nsIn K mainGlobals "NoDance"=some (some (.ref xc3)))
  {xc4:Addr} (xa4:nsIn K mainGlobals "NoName"=some (some (.ref xc4)))
  {xc5:Addr} (xa5:nsIn K mainGlobals "NoRing"=some (some (.ref xc5)))
  {xc6:Addr} (xa6:nsIn K mainGlobals "NoRow"=some (some (.ref xc6)))
  {xc7:Addr} (xa7:nsIn K mainGlobals "OtherSizes"=some (some (.ref xc7)))
  {xc8:Addr} (xa8:nsIn K mainGlobals "TooHeavy"=some (some (.ref xc8)))
  (cq1:catches K xc1 xc2=true)
  (xk:XKC K csX mroX=true)
  (xg:XGC K gkX=true)
  {xf1:Addr} {xod1 xan1:Option Addr} {xsl1:Array (Option Value)} {xoc1 xkV1 xdc1 xpm1 xcd1 xct1:Value} (xi1:PySem.W.findIn K (.ref xc1) "__init__"=some (some (.ref xf1))) (xl1:K.lookup xf1=some ⟨xoc1,xod1,.func (fnOf "__init__" "BadText.__init__" (defArgs zAW) (defBody zAW) (defScope zAW) .none xkV1 xdc1 xpm1 xan1 xcd1 xct1),xsl1⟩)
  (xw1:PySem.W.codeIn K xcd1 "BadText.__init__"=true) (xk1:PySem.W.keepIn K (.ref xf1)=true) (xe1:excI K xc1 xf1=true) (xs1:setKit K xc1 ["row"]=true) (xp1:PySem.W.keepIn K (.ref xc1)=true)
  {ts1:Tok} (sa1:nsIn K mainGlobals "FIGURES"=some (some (.str "01234" ts1))) :
  ∃ fd:FuncData,(∀ (s:Shared) (v:Value),BindsTo s fd ⟨[v],[]⟩ [("_law_script",v)])/\∀ base:Heap,K.In base->base.Ns mainGlobals mg->FnOk l.prog w K mg base CX0 13 fa fd ["_law_script"] (spD K none 1 F_law):=by
 have e:=hfa.symm.trans (mg_of X G a27)
 cases e
 have z_ValueError:=mg_none_of X G z1
 have z_all:=mg_none_of X G z2
 have z_bool:=mg_none_of X G z3
 have z_enumerate:=mg_none_of X G z4
 have z_int:=mg_none_of X G z5
 have z_isinstance:=mg_none_of X G z6
 have z_len:=mg_none_of X G z7
 have z_list:=mg_none_of X G z8
 have z_range:=mg_none_of X G z9
 have z_sorted:=mg_none_of X G z10
 have z_str:=mg_none_of X G z11
 have z_tuple:=mg_none_of X G z12
 have z_zip:=mg_none_of X G z13
 have z_XK:=xk
 have z_XG:=xg
 have xm1:=mg_of X G xa1
 have n_BadText:NK K mg "BadText":=⟨_,xa1,xm1⟩
 have xm2:=mg_of X G xa2
 have xm3:=mg_of X G xa3
 have n_NoDance:NK K mg "NoDance":=⟨_,xa3,xm3⟩
 have xm4:=mg_of X G xa4
 have n_NoName:NK K mg "NoName":=⟨_,xa4,xm4⟩
 have xm5:=mg_of X G xa5
 have n_NoRing:NK K mg "NoRing":=⟨_,xa5,xm5⟩
 have xm6:=mg_of X G xa6
 have n_NoRow:NK K mg "NoRow":=⟨_,xa6,xm6⟩
 have xm7:=mg_of X G xa7
 have n_OtherSizes:NK K mg "OtherSizes":=⟨_,xa7,xm7⟩
 have xm8:=mg_of X G xa8
 have n_TooHeavy:NK K mg "TooHeavy":=⟨_,xa8,xm8⟩
 have cat_CupError_BadText:Cat K mg "CupError" "BadText":=⟨_,xm2,fun C h=>by rw[xa1]at h; cases h; exact cq1⟩
 have xF1:=zD0 (st:=zAW) xl1 xw1 xk1
 have xb1:=xF1.binds (ps:=["self","row"]) (by walk_at "b")
 have catx_CupError_p_read_dance:CatX K mg "CupError" ["BadText"]:=⟨_,xm2,fun c hc C h=>by
  simp only[List.mem_cons,List.not_mem_nil,or_false]at hc
  rcases hc with rfl
  ·rw[xa1]at h; cases h; exact cq1⟩
 have k_FIGURES:D.KV K mg "FIGURES" c_FIGURES:=⟨.str "01234",_,mg_of X G sa1,⟨_,rfl⟩,fun H=>Im.atom⟩
 obtain⟨a1,_,F1⟩:=w1
 have b1:=F1.binds (ps:=["_law_script","_law_k"]) (by walk_at "b")
 have m1:=mg_of X G a1
 obtain⟨a2,_,F2⟩:=w2
 have b2:=F2.binds (ps:=["_law_numbers"]) (by walk_at "b")
 have m2:=mg_of X G a2
 obtain⟨a3,_,F3⟩:=w3
 have b3:=F3.binds (ps:=["_law_dance_here"]) (by walk_at "b")
 have m3:=mg_of X G a3
 obtain⟨a4,_,F4⟩:=w4
 have b4:=F4.binds (ps:=["_law_box_here","_law_wide"]) (by walk_at "b")
 have m4:=mg_of X G a4
 obtain⟨a5,_,F5⟩:=w5
 have b5:=F5.binds (ps:=["_law_box_here","_law_cups"]) (by walk_at "b")
 have m5:=mg_of X G a5
 obtain⟨a6,_,F6⟩:=w6
 have b6:=F6.binds (ps:=["_law_box_here","_law_cups","_law_questions"]) (by walk_at "b")
 have m6:=mg_of X G a6
 obtain⟨a7,_,F7⟩:=w7
 have b7:=F7.binds (ps:=["_law_turning_here"]) (by walk_at "b")
 have m7:=mg_of X G a7
 obtain⟨a8,_,F8⟩:=w8
 have b8:=F8.binds (ps:=["_law_box_here","_law_cups","_law_questions","_law_most"]) (by walk_at "b")
 have m8:=mg_of X G a8
 obtain⟨a9,_,F9⟩:=w9
 have b9:=F9.binds (ps:=["_law_box_here"]) (by walk_at "b")
 have m9:=mg_of X G a9
 obtain⟨a10,_,F10⟩:=w10
 have b10:=F10.binds (ps:=["_law_box_here","_law_row"]) (by walk_at "b")
 have m10:=mg_of X G a10
 obtain⟨a11,_,F11⟩:=w11
 have b11:=F11.binds (ps:=[]) fun _ _ _ _ _ _ us hl=>by obtain rfl:=len0 hl; exact rfl
 have m11:=mg_of X G a11
 obtain⟨a12,_,F12⟩:=w12
 have b12:=F12.binds (ps:=["_law_box_here"]) (by walk_at "b")
 have m12:=mg_of X G a12
 obtain⟨a13,_,F13⟩:=w13
 have b13:=F13.binds (ps:=["_law_box_here","_law_text"]) (by walk_at "b")
 have m13:=mg_of X G a13
 obtain⟨a14,_,F14⟩:=w14
 have b14:=F14.binds (ps:=["_law_found","_law_due_here"]) (by walk_at "b")
 have m14:=mg_of X G a14
 obtain⟨a15,_,F15⟩:=w15
 have b15:=F15.binds (ps:=["word","least","beyond","row"]) (by walk_at "b")
 have m15:=mg_of X G a15
 obtain⟨a16,_,F16⟩:=w16
 have b16:=F16.binds (ps:=["text"]) (by walk_at "b")
 have m16:=mg_of X G a16
 obtain⟨a17,_,F17⟩:=w17
 have b17:=F17.binds (ps:=["word"]) (by walk_at "b")
 have m17:=mg_of X G a17
 obtain⟨a18,_,F18⟩:=w18
 have b18:=F18.binds (ps:=["word","cups"]) (by walk_at "b")
 have m18:=mg_of X G a18
 obtain⟨a19,_,F19⟩:=w19
 have b19:=F19.binds (ps:=["word","cups","row"]) (by walk_at "b")
 have m19:=mg_of X G a19
 obtain⟨a20,_,F20⟩:=w20
 have b20:=F20.binds (ps:=["text","head","row"]) (by walk_at "b")
 have m20:=mg_of X G a20
 obtain⟨a21,_,F21⟩:=w21
 have b21:=F21.binds (ps:=["text"]) (by walk_at "b")
 have m21:=mg_of X G a21
 obtain⟨a22,_,F22⟩:=w22
 have b22:=F22.binds (ps:=["_law_e"]) (by walk_at "b")
 have m22:=mg_of X G a22
 obtain⟨a23,_,F23⟩:=w23
 have b23:=F23.binds (ps:=["_law_text"]) (by walk_at "b")
 have m23:=mg_of X G a23
 obtain⟨a24,_,F24⟩:=w24
 have b24:=F24.binds (ps:=["_law_cups","_law_piece"]) (by walk_at "b")
 have m24:=mg_of X G a24
 obtain⟨a25,_,F25⟩:=w25
 have b25:=F25.binds (ps:=["_law_text"]) (by walk_at "b")
 have m25:=mg_of X G a25
 obtain⟨a26,_,F26⟩:=w26
 have b26:=F26.binds (ps:=["_law_text"]) (by walk_at "b")
 have m26:=mg_of X G a26
 have F27:=zD0 (st:=st_law) l27 c27 k27
 have b27:=F27.binds (ps:=["_law_script"]) (by walk_at "b")
 have m27:=mg_of X G a27
 refine⟨fnOf "law" "law" (defArgs st_law) (defBody st_law) (defScope st_law) .none kV27 dc27 pm27 an27 cd27 ct27,fun s v=>.of_eq rfl,fun base _ _=>?_⟩
 have D_1:=ok_1 (P:=l.prog) (wd:=w) (base:=base) F1 m1 b1 z_int z_len
 have D_2:=ok_2 (P:=l.prog) (wd:=w) (base:=base) F2 m2 b2 z_str
 have D_3:=ok_3 F3 m3 b3 z_str D_2
 have D_4:=ok_4 (P:=l.prog) (wd:=w) (base:=base) F4 m4 b4
 have D_5:=ok_5 F5 m5 b5 z_len z_list z_range D_4
 have D_6:=ok_6 F6 m6 b6 z_range z_tuple D_4 D_5
 have D_7:=ok_7 (P:=l.prog) (wd:=w) (base:=base) F7 m7 b7 z_len z_range z_tuple
 have D_8:=ok_8 F8 m8 b8 z_len z_range z_tuple D_4 D_6 D_7
 have D_9:=ok_9 F9 m9 b9 z_len D_4
 have D_10:=zKK F10 m10 b10 z_len D_4 D_9
 have D_11:=ok_11 (P:=l.prog) (wd:=w) (base:=base) F11 m11 b11
 have D_12:=ok_12 F12 m12 b12 z_len D_4 D_11
 have D_13:=ok_13 F13 m13 b13 z_len D_4 D_10 D_12
 have D_0:=ok_0 (P:=l.prog) (wd:=w) (base:=base) F14 m14 b14 z_all z_bool z_isinstance z_len z_list z_tuple z_zip fuel_0
 have x_BadText:=zJ3 (P:=l.prog) (wd:=w) (base:=base) xa1 xm1 xe1 (zHZ (k:=0) xF1 zEM rfl xs1 (by decide) (by decide) (by decide) (by decide)) xb1 (by decide) rfl xp1
 have X_p_read_number:=ok_14 (P:=l.prog) (wd:=w) (base:=base) F15 m15 b15 z_int z_range z_str x_BadText
 have X_p_read_head:=ok_15 (P:=l.prog) (wd:=w) (base:=base) F16 m16 b16 z_len x_BadText X_p_read_number
 have D_16:=ok_16 (P:=l.prog) (wd:=w) (base:=base) F17 m17 b17 z_int z_tuple
 have D_17:=ok_17 (P:=l.prog) (wd:=w) (base:=base) F18 m18 b18 z_list z_sorted k_FIGURES
 have X_p_read_turning:=ok_18 (P:=l.prog) (wd:=w) (base:=base) F19 m19 b19 D_16 D_17 x_BadText
 have X_p_read_step:=ok_19 (P:=l.prog) (wd:=w) (base:=base) F20 m20 b20 z_len x_BadText X_p_read_number X_p_read_turning
 have X_p_read_dance:=ok_20 (P:=l.prog) (wd:=w) (base:=base) F21 m21 b21 z_len z_range z_tuple X_p_read_head X_p_read_step
 have D_21:=ok_21 (P:=l.prog) (wd:=w) (base:=base) F22 m22 b22 z_ValueError z_XG z_XK z_bool z_isinstance n_BadText n_NoDance n_NoName n_NoRing n_NoRow n_OtherSizes n_TooHeavy
 have D_22:=ok_22 F23 m23 b23 D_21 cat_CupError_BadText X_p_read_dance catx_CupError_p_read_dance
 have D_23:=ok_23 (P:=l.prog) (wd:=w) (base:=base) F24 m24 b24 z_list z_sorted
 have D_24:=ok_24 F25 m25 b25 z_enumerate z_int z_len z_range z_str z_tuple D_23
 have D_25:=ok_25 F26 m26 b26 z_int z_isinstance D_24
 exact ok_law F27 z_range D_1 D_3 D_4 D_8 D_13 D_0 D_22 D_25
theorem walk{l:PySem.W.OpenLaw}{q:Program}{loose:List Str}{XP:(Str->Option Value)->Heap->Prop}{YP:World->Heap->Prop}{d:DefRec}{K:Params->PySem.W.Frag}(pure:∀ ns:List Int,ns.length<=63->F_law [.k (intsT ns)]=some (.v (.a (.bl true)),[]))(hn:l.most=some 63)(hdf:d.params.defaults=[])
  (hY:∀ (w:World) (h:Heap),YP w h->(K w.params).In h)
  (F:∀ (w:World) (mg:Str->Option Value) (fa:Addr) (h:Heap),(K w.params).In h->h.Ns mainGlobals mg->mg d.name=some (.ref fa) ->
   ∃ fd:FuncData,(∀ (s:Shared) (u:Value),BindsTo s fd ⟨[u],[]⟩ [("_law_script",u)])/\∀ base:Heap,(K w.params).In base->base.Ns mainGlobals mg->FnOk l.prog w (K w.params) mg base CX0 13 fa fd ["_law_script"] (spD (K w.params) none 1 F_law)) :
  PySem.W.WalkO q loose XP YP l.row.toRowW d [] (fun f vs=>PySem.call f vs) :=
 L2.walk_of (n:=63) (k:=13) (x:="_law_script") (CX:=fun _=>CX0) (sp:=fun w=>spD (K w.params) none 1 F_law) hn (by decide) hdf ⟨rfl,by decide,by decide,rfl⟩ hY F (fun w H a ns hl hO hS=>zIv hO hS (pure ns hl)) fun _ _ _ _ _ z=>z
end Lw
local macro_rules | `(tactic| walk_at "w") => `(tactic| (refine' Lw.wr_mk ?a ?l ?c ?k; (case a=>k_is); (case l=>k_is); (case c=>k_is); (case k=>k_is)))
open PySem PySem.W PyProof.Rows
theorem PySem.W.Fast.tw12138124089553190138:True:=trivial
theorem PySem.W.Fast.tw10603151498082855441:True:=trivial
theorem PySem.W.Fast.tw3498341304680838800:True:=trivial
theorem PySem.W.Fast.tw17930138022495315908:True:=trivial
theorem PySem.W.Fast.tw3050242985603616643:True:=trivial
theorem PySem.W.Fast.tw2086899613244128053:True:=trivial
theorem PySem.W.Fast.tw17447770609171537915:True:=trivial
theorem PySem.W.Fast.tw1519375125195253860:True:=trivial
theorem PySem.W.Fast.tw18205719938517674688:True:=trivial
theorem PySem.W.Fast.tw8007569029023520127:True:=trivial
theorem PySem.W.Fast.tw620298678457216237:True:=trivial
theorem PySem.W.Fast.tw6470378518608412096:True:=trivial
theorem PySem.W.Fast.tw7129481449073449405:True:=trivial
theorem PySem.W.Fast.tw7590121063137736459:True:=trivial
theorem PySem.W.Fast.tw2484242125198628573:True:=trivial
theorem PySem.W.Fast.tw15260591400209154123:True:=trivial
theorem PySem.W.Fast.tw13038789320100054120:True:=trivial
theorem PySem.W.Fast.tw3105564626190830700:True:=trivial
theorem PySem.W.Fast.tw17065729842055831791:True:=trivial
theorem PySem.W.Fast.tw1239246212991117662:True:=trivial
theorem PySem.W.Fast.tw14995637940486062479:True:=trivial
theorem PySem.W.Fast.tw15332054327334845315:True:=trivial
theorem PySem.W.Fast.tw16740079314250105938:True:=trivial
set_option maxRecDepth 100000 in
set_option maxHeartbeats 0 in
theorem PySem.Challenge.cw_fivecups_k15_texts_of_no_dance_holds : PySem.Challenge.rw_fivecups_k15_texts_of_no_dance.Holds := by
 w_on; o_law; k_head; (case hw=>w_witness2)
 k_fill
 refine Lw.walk (l:=PySem.Challenge.rw_fivecups_k15_texts_of_no_dance) Lw.law_true rfl rfl (fun w h Y=>PySem.W.kIn_of Y) ?F
 case F =>
  intro w mg fa h KX G hmg
  refine' Lw.all_mk KX G hmg ?w1 ?w2 ?w3 ?w4 ?w5 ?w6 ?w7 ?w8 ?w9 ?w10 ?w11 ?w12 ?w13 ?w14 ?w15 ?w16 ?w17 ?w18 ?w19 ?w20 ?w21 ?w22 ?w23 ?w24 ?w25 ?w26 ?a27 ?l27 ?c27 ?k27 ?z1 ?z2 ?z3 ?z4 ?z5 ?z6 ?z7 ?z8 ?z9 ?z10 ?z11 ?z12 ?z13 ?xa1 ?xa2 ?xa3 ?xa4 ?xa5 ?xa6 ?xa7 ?xa8 ?cq1 ?xk ?xg ?xi1 ?xl1 ?xw1 ?xk1 ?xe1 ?xs1 ?xp1 ?sa1
  all_goals try walk_at "w"
  (case a27=>k_is); (case l27=>k_is); (case c27=>k_is); (case k27=>k_is)
  (case z1=>k_is); (case z2=>k_is); (case z3=>k_is); (case z4=>k_is); (case z5=>k_is); (case z6=>k_is); (case z7=>k_is); (case z8=>k_is); (case z9=>k_is); (case z10=>k_is); (case z11=>k_is); (case z12=>k_is); (case z13=>k_is)
  (case sa1=>k_is)
  (case xa1=>k_is)
  (case xa2=>k_is)
  (case xa3=>k_is)
  (case xa4=>k_is)
  (case xa5=>k_is)
  (case xa6=>k_is)
  (case xa7=>k_is)
  (case xa8=>k_is)
  (case cq1=>first | k_is | kernel_rfl)
  (case xk=>kernel_rfl)
  (case xg=>kernel_rfl)
  (case xi1=>k_is); (case xl1=>k_is); (case xw1=>k_is); (case xk1=>k_is); (case xe1=>kernel_rfl); (case xs1=>kernel_rfl); (case xp1=>k_is)
