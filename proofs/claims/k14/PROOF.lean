import PyProof.Rows.All
import Wide.All
import OpenK.AllK
import Wide.FinOn
import Lean
import PyProof.EqAt
import PyProof.EqKinds
import PyProof.TupleCall
import PyProof.ExcBaseAll.ValueError
import PyProof.NsDelKeeps
import KE.KIsAll
import PyProof.NeKinds
import PyProof.Rows.StrJoin2
import PyProof.StrCalls3
import PyProof.MinMaxWalk
import PyProof.Rows.SortWalkRead
import PyProof.WalkInts
import KE.KMinBuiltin
import PyProof.SetNew
import PyProof.SetKind
import PyProof.Rows.SetFrom
import PyProof.WalksMore
import PyProof.ForAny
import PyProof.CollectIter
import PyProof.Rows.SortStr
import PyProof.ListRange
import PyProof.AttrMissHeap
import KE.KDictList
import KE.KSortKey
import PySem.Challenge.RW_worldyard_k14_whole_told_to_all
set_option Elab.async false
set_option linter.all false
set_option maxRecDepth 100000

namespace L2
open PySem PySem.Spec PyProof.Rows
noncomputable abbrev Key:=Sum Int Str
noncomputable def keyIs:Key->Value->Bool
  | .inl k,v=>Value.isInt k v
  | .inr x,v=>Value.isStrOf x v
noncomputable def keyH (w:World):Key->Int
  | .inl k=>hashInt k
  | .inr x=>hashStr w x
theorem keyIs_shape:∀ {k:Key} {v:Value},keyIs k v=true->(∃ i t,k=Sum.inl i/\v=Value.int i t)∨(∃ x t,k=Sum.inr x/\v=Value.str x t)
  | .inl i,v,h=>by
    obtain ⟨t,e⟩:=Value.isInt_shape (k:=i) (v:=v) h
    exact .inl ⟨i,t,rfl,e⟩
  | .inr x,v,h=>by
    obtain ⟨t,e⟩:=Value.isStrOf_shape (x:=x) (v:=v) h
    exact .inr ⟨x,t,rfl,e⟩
theorem key_ll (a b:Int):decide ((Sum.inl a:Key)=Sum.inl b)=(a == b):=by
  by_cases e:a=b
  · subst e; simp
  · have h:¬ (Sum.inl a:Key)=Sum.inl b:=λ q=>e (Sum.inl.inj q)
    rw [decide_eq_false h]
    exact (beq_eq_false_iff_ne.mpr e).symm
theorem key_rr (a b:Str):decide ((Sum.inr a:Key)=Sum.inr b)=decide (a=b):=by
  by_cases e:a=b
  · subst e; simp
  · have h:¬ (Sum.inr a:Key)=Sum.inr b:=λ q=>e (Sum.inr.inj q)
    rw [decide_eq_false h,decide_eq_false e]
theorem key_lr (a:Int) (b:Str):decide ((Sum.inl a:Key)=Sum.inr b)=false:=decide_eq_false (λ q=>nomatch q)
theorem key_rl (a:Str) (b:Int):decide ((Sum.inr a:Key)=Sum.inl b)=false:=decide_eq_false (λ q=>nomatch q)
noncomputable def mixKind (prog:Program) (w:World):PySem.KeyKind prog w Key where
  is:=keyIs
  hash:=keyH w
  inj:=λ v a b ha hb=>by
    rcases keyIs_shape ha with ⟨i,t,rfl,rfl⟩ | ⟨x,t,rfl,rfl⟩
    · rcases keyIs_shape hb with ⟨j,u,rfl,e⟩ | ⟨y,u,rfl,e⟩
      · injection e with e1 _; rw [e1]
      · exact nomatch e
    · rcases keyIs_shape hb with ⟨j,u,rfl,e⟩ | ⟨y,u,rfl,e⟩
      · exact nomatch e
      · injection e with e1 _; rw [e1]
  byValue:=λ k v h=>by
    rcases keyIs_shape h with ⟨i,t,rfl,rfl⟩ | ⟨x,t,rfl,rfl⟩ <;> rfl
  pyHash:=λ hv h=>by
    rcases keyIs_shape hv with ⟨i,t,rfl,rfl⟩ | ⟨x,t,rfl,rfl⟩
    · exact wpAny_pyHash_int h
    · exact wpAny_pyHash_str h
  eqBool:=λ hu hv h=>by
    rcases keyIs_shape hu with ⟨i,t,rfl,rfl⟩ | ⟨x,t,rfl,rfl⟩
    · rcases keyIs_shape hv with ⟨j,u,rfl,rfl⟩ | ⟨y,u,rfl,rfl⟩
      · rw [key_ll] at h; exact wpAny_eqBool_int h
      · rw [key_lr] at h; exact SeqAt.EqAt.int_str i t y u _ _ _ _ h
    · rcases keyIs_shape hv with ⟨j,u,rfl,rfl⟩ | ⟨y,u,rfl,rfl⟩
      · rw [key_rl] at h; exact SeqAt.EqAt.str_int x t j u _ _ _ _ h
      · rw [key_rr] at h; exact wpAny_eqBool_str h
  «strs»:=λ k x t v h=>by
    rcases keyIs_shape h with ⟨i,u,rfl,e⟩ | ⟨y,u,rfl,e⟩
    · exact nomatch e
    · injection e with e1 _
      subst e1
      cases v <;> rfl
end L2
namespace L2
open PySem PySem.Spec PyProof.Rows
inductive V where
  | non | bl (b:Bool) | int (i:Int) | str (x:Str) | byt (b:Array UInt8) | flt (b:UInt64) | ref (a:Addr) | ty (n:String)
  deriving DecidableEq
noncomputable def RelV:V->Value->Prop
  | .non,u=>u=Value.none
  | .bl b,u=>u=Value.bool b
  | .int i,u=>∃ t,u=Value.int i t
  | .str x,u=>∃ t,u=Value.str x t
  | .byt b,u=>∃ t,u=Value.bytes b t
  | .flt b,u=>∃ t,u=Value.float b t
  | .ref a,u=>u=Value.ref a
  | .ty n,u=>u=Value.type n
noncomputable abbrev Vals:List V->List Value->Prop:=Paired RelV
theorem Vals.length {xs:List V} {us:List Value} (r:Vals xs us):xs.length=us.length:=Paired.length r
theorem Vals.get:∀ {xs:List V} {us:List Value} {i:Nat} {x:V},Vals xs us->xs[i]?=some x->∃ u,us[i]?=some u/\RelV x u
  | _,_,_,_,.nil,e=>by simp at e
  | _,_,0,_,.cons r _,e=>by simp at e; subst e; exact ⟨_,rfl,r⟩
  | _,_,i + 1,x,.cons _ t,e=>by
    obtain ⟨u,h1,h2⟩:=Vals.get (i:=i) (x:=x) t (by simpa using e)
    exact ⟨u,by simpa using h1,h2⟩
theorem Vals.append:∀ {xs ys:List V} {us ws:List Value},Vals xs us->Vals ys ws->Vals (xs++ys) (us++ws)
  | _,_,_,_,.nil,s=>s
  | _,_,_,_,.cons r t,s=>.cons r (Vals.append t s)
theorem Vals.take:∀ {xs:List V} {us:List Value} (n:Nat),Vals xs us->Vals (xs.take n) (us.take n)
  | _,_,0,_=>.nil
  | _,_,_ + 1,.nil=>.nil
  | _,_,n + 1,.cons r t=>.cons r (Vals.take n t)
theorem Vals.drop:∀ {xs:List V} {us:List Value} (n:Nat),Vals xs us->Vals (xs.drop n) (us.drop n)
  | _,_,0,r=>r
  | _,_,_ + 1,.nil=>.nil
  | _,_,n + 1,.cons _ t=>Vals.drop n t
noncomputable def RelO:Option V->Option Value->Prop
  | some v,some u=>RelV v u
  | none,none=>True
  | _,_=>False
noncomputable def KV {κ:Type}:List (κ×V)->List (κ×Value)->Prop:=Paired λ (p:κ×V) (q:κ×Value)=>p.1=q.1/\RelV p.2 q.2
noncomputable def kV:Key->V
  | .inl i=>.int i
  | .inr x=>.str x
inductive HO where
  | lst (xs:List V)
  | tup (xs:List V)
  | dK (kvs:List (Key×V)) | dT (kvs:List (List Key×V))
  | set (S:Int->Bool) (n:Nat)
  | ins (C dx:Addr) (fs:List (Str×V))
  | own (x:Addr)
  | xd (fs:List (Str×V))
  | met (f x:Addr)
  | rng (lo hi:Int)
  | frz (o:Obj) (u:HO)
  | tbl (ps:Array Value)
  | ext (φ:Heap->Prop)
noncomputable abbrev Hp:=Addr->Option HO
noncomputable def upd (H:Hp) (a:Addr) (o:HO):Hp:=λ b=>if b=a then some o else H b
theorem upd_same {H:Hp} {a:Addr} {o:HO}:upd H a o a=some o:=by unfold upd; rw [if_pos rfl]
theorem upd_ne {H:Hp} {a b:Addr} {o:HO} (h:b≠a):upd H a o b=H b:=by unfold upd; rw [if_neg h]
theorem ne_of_none {H:Hp} {a b:Addr} {o:HO} (h:H a=some o) (h':H b=none):a≠b:=by
  intro e; subst e; rw [h] at h'; cases h'
section
variable (P:Program) (w:World)
noncomputable def ObjOk (H:Hp) (h:Heap) (a:Addr):HO->Prop
  | .lst xs=>xs.length<=sizeLine/\∃ (its:List Value) (n:Nat),Vals xs its/\h.get? a=some { cls:=.type "list",data:=.seq its.toArray n }
  | .tup xs=>xs.length<=sizeLine/\∃ its:List Value,Vals xs its/\IsTup h a its.toArray
  | .dK kvs=>kvs.length<=sizeLine/\(a == sysModules)=false/\∃ vs,KV kvs vs/\h.DictOf (mixKind P w) a vs
  | .dT kvs=>kvs.length<=sizeLine/\(a == sysModules)=false/\∃ xs:List (List Key×Addr×Value),
      Paired (λ (p:List Key×V) (q:List Key×Addr×Value)=>p.1=q.1/\H q.2.1=some (.tup (p.1.map kV))/\RelV p.2 q.2.2) kvs xs /\
      ∃ o es ep,h.get? a=some o/\o.ExactDict/\o.data=.dict es ep/\es.toList=xs.map (entryOfKey (tupleKind (mixKind P w)))/\(xs.map (·.1)).Nodup
  | .set S n=>h.SetOf (intKind P w) a S n
  | .ins C dx fs=>H dx=some (.own a)/\fs.length<=1000/\dx≠a/\h.get? a=some (PySem.W.instObj C dx) /\
      ∃ mA,h.Ns1 dx mA/\(∀ f,RelO (fs.lookup f) (mA f))/\PySem.Within mA (fs.map (·.1))
  | .own _=>∃ o,h.get? a=some o
  | .xd fs=>∃ mA,h.Ns1 a mA/\∀ f,RelO (fs.lookup f) (mA f)
  | .rng lo hi=>∃ t u v,h.get? a=some { cls:=.type "range",data:=.fields #[.int lo t,.int hi u,.int 1 v] }
  | .frz o u=>h.get? a=some o/\ObjOk H h a u
  | .tbl ps=>h.get? a=some { cls:=.none,data:=.fields ps }
  | .met f x=>h.get? a=some (PySem.W.methodObj (.ref f) (.ref x))
  | .ext φ=>φ h/\(∃ o,h.get? a=some o)/\∀ h1 h2:Heap,φ h1->(∀ o,h1.get? a=some o->h2.get? a=some o)->φ h2
noncomputable def HOk (H:Hp) (h:Heap):Prop:=∀ a o,H a=some o->ObjOk P w H h a o
end
section
variable {P:Program} {w:World} {H H':Hp} {h h':Heap} {a:Addr} {o:HO}
theorem ObjOk.lt (x:ObjOk P w H h a o):a < h.objs.size:=by
  cases o with
  | lst xs=>obtain ⟨_,_,_,_,e⟩:=x; exact Heap.lt_size e
  | tup xs=>obtain ⟨_,_,_,p⟩:=x; exact p.lt
  | dK kvs=>obtain ⟨_,_,_,_,o,_,_,e,_⟩:=x; exact Heap.lt_size e
  | dT kvs=>obtain ⟨_,_,_,_,o,_,_,e,_⟩:=x; exact Heap.lt_size e
  | set S n=>obtain ⟨o,_,_,_,e,_⟩:=x; exact Heap.lt_size e
  | ins C dx fs=>obtain ⟨_,_,_,e,_⟩:=x; exact Heap.lt_size e
  | own y=>obtain ⟨_,e⟩:=x; exact Heap.lt_size e
  | xd fs=>obtain ⟨_,⟨_,_,_,e,_⟩,_⟩:=x; exact Heap.lt_size e
  | rng lo hi=>obtain ⟨_,_,_,e⟩:=x; exact Heap.lt_size e
  | frz ob u=>obtain ⟨e,_⟩:=x; exact Heap.lt_size e
  | tbl ps=>exact Heap.lt_size (show h.get? a=some _ from x)
  | met f y=>exact Heap.lt_size (show h.get? a=some _ from x)
  | ext φ=>obtain ⟨_,⟨_,e⟩,_⟩:=x; exact Heap.lt_size e
theorem Paired.mapP {α β:Type} {F G:α->β->Prop}:∀ {l₁:List α} {l₂:List β},Paired F l₁ l₂->(∀ a b,F a b->G a b)->Paired G l₁ l₂
  | _,_,.nil,_=>.nil
  | _,_,.cons r t,f=>.cons (f _ _ r) (Paired.mapP t f)
theorem ObjOk.stay (x:ObjOk P w H h a o) (k:∀ b u,(b=a∨H b=some (.own a))->h.get? b=some u->h'.get? b=some u)
    (ho:∀ b,H b=some (.own a)->H' b=some (.own a)) (ht:∀ b xs,H b=some (.tup xs)->H' b=some (.tup xs)):ObjOk P w H' h' a o:=by
  induction o with
  | lst xs=>obtain ⟨z,its,n,r,e⟩:=x; exact ⟨z,its,n,r,k _ _ (.inl rfl) e⟩
  | tup xs=>obtain ⟨z,its,r,ob,e,c⟩:=x; exact ⟨z,its,r,ob,k _ _ (.inl rfl) e,c⟩
  | dK kvs=>obtain ⟨z,y,vs,r,ob,es,ep,e,c⟩:=x; exact ⟨z,y,vs,r,ob,es,ep,k _ _ (.inl rfl) e,c⟩
  | dT kvs =>
    obtain ⟨z,y,xs,r,ob,es,ep,e,c⟩:=x
    exact ⟨z,y,xs,Paired.mapP r λ p q z=>⟨z.1,ht _ _ z.2.1,z.2.2⟩,ob,es,ep,k _ _ (.inl rfl) e,c⟩
  | set S n=>obtain ⟨ob,es,ep,t,e,c⟩:=x; exact ⟨ob,es,ep,t,k _ _ (.inl rfl) e,c⟩
  | ins C dx fs =>
    obtain ⟨d,z,ne,e,mA,⟨od,es,ep,e2,c⟩,r⟩:=x
    exact ⟨ho _ d,z,ne,k _ _ (.inl rfl) e,mA,⟨od,es,ep,k _ _ (.inr d) e2,c⟩,r⟩
  | own y=>obtain ⟨ob,e⟩:=x; exact ⟨ob,k _ _ (.inl rfl) e⟩
  | xd fs=>obtain ⟨mA,⟨od,es,ep,e,c⟩,r⟩:=x; exact ⟨mA,⟨od,es,ep,k _ _ (.inl rfl) e,c⟩,r⟩
  | rng lo hi=>obtain ⟨t,u,v,e⟩:=x; exact ⟨t,u,v,k _ _ (.inl rfl) e⟩
  | frz ob u ih=>obtain ⟨e,q⟩:=x; exact ⟨k _ _ (.inl rfl) e,ih q⟩
  | tbl ps =>
    have e:h.get? a=some { cls:=.none,data:=.fields ps }:=x
    show h'.get? a=some { cls:=.none,data:=.fields ps }
    exact k a _ (.inl rfl) e
  | met f y =>
    have e:h.get? a=some (PySem.W.methodObj (.ref f) (.ref y)):=x
    show h'.get? a=some (PySem.W.methodObj (.ref f) (.ref y))
    exact k a _ (.inl rfl) e
  | ext φ=>obtain ⟨p,⟨o,e⟩,st⟩:=x; exact ⟨st _ _ p λ o q=>k _ _ (.inl rfl) q,⟨o,k _ _ (.inl rfl) e⟩,st⟩
theorem HOk.lt (x:HOk P w H h) (e:H a=some o):a < h.objs.size:=(x a o e).lt
theorem HOk.fresh (x:HOk P w H h) (e:h.objs.size<=a):H a=none:=by
  cases q:H a with
  | none=>rfl
  | some u=>exact absurd (Nat.lt_of_lt_of_le (x.lt q) e) (Nat.lt_irrefl _)
theorem HOk.kept (x:HOk P w H h) (k:∀ b u,h.get? b=some u->h'.get? b=some u):HOk P w H h':=λ a o e =>
  (x a o e).stay (λ b u _ q=>k b u q) (λ _ q=>q) λ _ _ q=>q
theorem HOk.laid (x:HOk P w H h) (k:∀ b u,h.get? b=some u->h'.get? b=some u) (hp:h.objs.size<=a) (new:ObjOk P w (upd H a o) h' a o):HOk P w (upd H a o) h':=λ b u e=>by
  have hn:=x.fresh hp
  by_cases hb:b=a
  · subst hb; rw [upd_same] at e; cases e; exact new
  · rw [upd_ne hb] at e
    exact (x b u e).stay (λ c v _ q=>k c v q) (λ c q=>by rw [upd_ne (ne_of_none q hn)]; exact q) λ c xs q=>by rw [upd_ne (ne_of_none q hn)]; exact q
end
noncomputable def Rd (H:Hp) (a:Addr) (u:HO):Prop:=H a=some u∨∃ o,H a=some (.frz o u)
theorem Rd.ok {P:Program} {w:World} {H:Hp} {h:Heap} {a:Addr} {u:HO} (r:Rd H a u) (x:HOk P w H h):ObjOk P w H h a u:=by
  rcases r with r | ⟨o,r⟩
  · exact x a u r
  · obtain ⟨_,q⟩:=x a _ r
    exact q
noncomputable def Mut:Option HO->Prop
  | some (.lst _)=>True
  | some (.dK _)=>True
  | some (.dT _)=>True
  | some (.set _ _)=>True
  | some (.ins _ _ _)=>True
  | some (.ext _)=>True
  | _=>False
section
variable {P:Program} {w:World} {H:Hp} {h h':Heap} {x e:Addr} {o':HO}
theorem HOk.write (ok:HOk P w H h) (mu:Mut (H x)) (he:e=x∨H e=some (.own x)) (k:∀ b u,b≠e->h.get? b=some u->h'.get? b=some u) (heo:∃ u,h'.get? e=some u)
    (new:ObjOk P w (upd H x o') h' x o'):HOk P w (upd H x o') h':=λ b u q=>by
  have nown:∀ c y,H c=some (.own y)->c≠x:=λ c y r z=>by subst z; rw [r] at mu; exact mu
  have ntup:∀ c xs,H c=some (.tup xs)->c≠x:=λ c xs r z=>by subst z; rw [r] at mu; exact mu
  by_cases hb:b=x
  · subst hb; rw [upd_same] at q; cases q; exact new
  · rw [upd_ne hb] at q
    by_cases hbe:b=e
    · have q':H b=some (.own x):=by
        rcases he with z | z
        · exact absurd (hbe.trans z) hb
        · rw [hbe]; exact z
      rw [q] at q'; cases q'
      obtain ⟨v,hv⟩:=heo
      exact ⟨v,by rw [hbe]; exact hv⟩
    · refine (ok b u q).stay (λ c v hc r=>k c v ?_ r) (λ c r=>by rw [upd_ne (nown c b r)]; exact r) λ c xs r=>by rw [upd_ne (ntup c xs r)]; exact r
      rcases hc with rfl | hc
      · exact hbe
      · rintro rfl
        rcases he with z | z
        · exact nown c b hc z
        · rw [hc] at z; cases z; exact hb rfl
end
structure Un (fs ex:List Addr) (H H':Hp) (h h':Heap):Prop where
  keep:∀ b o,h.get? b=some o->H b=none->b∉fs->b∉ex->h'.get? b=some o
  slot:∀ b o,h.get? b=some o->H b=none->b∈fs->b∉ex->∃ sl,h'.get? b=some { o with slots:=sl }
  free:∀ b o,h.get? b=some o->H b=none->b∉ex->H' b=none
  there:∀ b o,h.get? b=some o->b∉ex->∃ o',h'.get? b=some o'
  tups:∀ b xs,H b=some (.tup xs)->H' b=some (.tup xs)
  frzs:∀ b o u,H b=some (.frz o u)->H' b=some (.frz o u)
  tbls:∀ b ps,H b=some (.tbl ps)->∃ more,H' b=some (.tbl (ps++more))
section
variable {fs fs' ex ex':List Addr} {H H1 H2:Hp} {h h1 h2 h':Heap} {a x e:Addr} {o:HO}
theorem Un.any (u:Un fs ex H H1 h h1) {b:Addr} {ob:Obj} (q:h.get? b=some ob) (n:H b=none) (hx:b∉ex):∃ sl,h1.get? b=some { ob with slots:=sl }:=by
  by_cases hb:b∈fs
  · exact u.slot b ob q n hb hx
  · exact ⟨ob.slots,u.keep b ob q n hb hx⟩
theorem Un.kept (k:∀ b u,h.get? b=some u->h'.get? b=some u):Un fs ex H H h h' :=
  ⟨λ b ob q _ _ _=>k b ob q,λ b ob q _ _ _=>⟨ob.slots,k b ob q⟩,λ _ _ _ n _=>n,λ b ob q _=>⟨ob,k b ob q⟩,λ _ _ q=>q,λ _ _ _ q=>q,λ _ ps q=>⟨#[],by rw [q]; simp⟩⟩
theorem Un.refl:Un fs ex H H h h:=Un.kept λ _ _ q=>q
theorem Un.laid (k:∀ b u,h.get? b=some u->h'.get? b=some u) (hp:h.objs.size<=a) (hn:H a=none):Un fs ex H (upd H a o) h h' where
  keep:=λ b u q _ _ _=>k b u q
  slot:=λ b u q _ _ _=>⟨u.slots,k b u q⟩
  free:=λ b u q n _=>by rw [upd_ne (Nat.ne_of_lt (Nat.lt_of_lt_of_le (Heap.lt_size q) hp))]; exact n
  there:=λ b u q _=>⟨u,k b u q⟩
  tups:=λ b xs q=>by rw [upd_ne (ne_of_none q hn)]; exact q
  frzs:=λ b u xs q=>by rw [upd_ne (ne_of_none q hn)]; exact q
  tbls:=λ b ps q=>⟨#[],by rw [upd_ne (ne_of_none q hn),q]; simp⟩
theorem Un.write (mu:Mut (H x)) (he:e=x∨H e=some (.own x)) (k:∀ b u,b≠e->h.get? b=some u->h'.get? b=some u) (heo:∃ u,h'.get? e=some u):Un fs ex H (upd H x o) h h':=by
  have hx:∀ b,H b=none->b≠x:=λ b n z=>by subst z; rw [n] at mu; exact mu
  have hb:∀ b,H b=none->b≠e:=λ b n z=>by
    subst z
    rcases he with r | r
    · exact hx b n r
    · rw [n] at r; cases r
  have hm:∀ b u,H b=some u->¬ Mut (some u)->b≠x:=λ b u q nm z=>by subst z; rw [q] at mu; exact nm mu
  refine ⟨λ b u q n _ _=>k b u (hb b n) q,λ b u q n _ _=>⟨u.slots,k b u (hb b n) q⟩,λ b u q n _=>by rw [upd_ne (hx b n)]; exact n,λ b u q _=>?_,
    λ b xs q=>by rw [upd_ne (hm b _ q λ z=>z)]; exact q,λ b u xs q=>by rw [upd_ne (hm b _ q λ z=>z)]; exact q,λ b ps q=>⟨#[],by rw [upd_ne (hm b _ q λ z=>z),q]; simp⟩⟩
  by_cases hbe:b=e
  · subst hbe; exact heo
  · exact ⟨u,k b u hbe q⟩
end
noncomputable def trk (h:Heap) (H:Hp):List Addr:=(List.range h.objs.size).filter λ a=>(H a).isSome
noncomputable def hidT (h:Heap) (H:Hp):Heap:=PySem.W.hideAll h (trk h H)
theorem hidT_size (h:Heap) (H:Hp):(hidT h H).objs.size=h.objs.size:=PySem.W.hideAll_size _ _
theorem hidT_get {h:Heap} {H:Hp} {b:Addr} {o:Obj} (e:h.get? b=some o) (n:H b=none):(hidT h H).get? b=some o :=
  PySem.W.hideAll_get _ e λ hm=>by
    have q:(H b).isSome=true:=(List.mem_filter.mp hm).2
    rw [n] at q; simp at q
theorem of_hidT {h:Heap} {H:Hp} {b:Addr} {o:Obj} (e:(hidT h H).get? b=some o):h.get? b=some o/\H b=none:=by
  have e':h.get? b=some o:=PySem.W.of_hideAll (trk h H) e
  refine ⟨e',?_⟩
  cases q:H b with
  | none=>rfl
  | some x =>
    have hm:b∈trk h H:=List.mem_filter.mpr ⟨List.mem_range.mpr (Heap.lt_size e'),by simp [q]⟩
    have z:(hidT h H).get? b=none:=PySem.W.hideAll_none (trk h H) hm
    rw [z] at e; cases e
end L2
namespace L2
open PySem PySem.Spec PyProof.Rows
structure Mod (K:PySem.W.Frag) (mg:Str->Option Value) (base:Heap):Prop where
  kin:K.In base
  glob:base.Ns mainGlobals mg
  blt:∃ mb,base.Ns builtinsNs mb/\∀ x:Str,x≠"__name__"->mb x=bootBuiltins x
  nolimit:base.NoLimit
structure Cx where
  prog:Program
  w:World
  K:PySem.W.Frag
  mg:Str->Option Value
  base:Heap
  A:Around
  N:List Str
  s₀:Shared
  H₀:Hp
  env:Env
  outer:List Env
  stack:List Env
  ex:List Addr
  fn:Str->Bool
  calm:Bool
  pn:List (Addr×Obj)
  xe:Value->Shared->Prop
noncomputable def frs (l:List Env):List Addr:=l.filterMap (·.frame)
noncomputable abbrev Cx.fs (X:Cx):List Addr:=frs X.outer
noncomputable def Vis (sc:Scope) (x:Str):Prop:=sc.names.lookup x=some .local∨sc.names.lookup x=some .cell∨sc.names.lookup x=some .free
noncomputable def Loc (sc:Scope) (x:Str):Prop:=sc.names.lookup x=some .local∨sc.names.lookup x=some .cell
noncomputable def Look (env:Env) (h:Heap) (m:Str->Option Value) (x:Str) (u:Value):Prop :=
  (env.kindOf x=some .local/\m x=some u)∨((env.kindOf x=some .cell∨env.kindOf x=some .free)/\∃ c,env.cells.lookup x=some c/\h.IsCell c (some u))
structure Cx.Ok (X:Cx):Prop where
  mod:Mod X.K X.mg X.base
  kind:X.env.scope.kind=.function
  glob:X.env.globals=mainGlobals
  blt:X.env.builtins=builtinsNs
  above:X.s₀.heap.objs.size<=X.env.locals
  inj:∀ x y c,X.env.cells.lookup x=some c->X.env.cells.lookup y=some c->x=y
  has:∀ x,(X.env.kindOf x=some .cell∨X.env.kindOf x=some .free)->∃ c,X.env.cells.lookup x=some c
  cab:∀ x c,X.fn x=true->X.env.cells.lookup x=some c->X.s₀.heap.objs.size<=c
  hd:X.calm=true->X.A.handled=none
  frames:X.A.frames=some X.stack
  stk:X.stack=X.outer∨(X.stack=X.env::X.outer/\X.env.frame=some X.env.locals)
  exf:∀ b∈X.ex,b≠X.env.locals/\∀ x c,X.env.cells.lookup x=some c->c≠b
  bs:∀ b o,X.base.get? b=some o->X.s₀.heap.get? b=some o/\X.H₀ b=none
  bsz:X.base.objs.size<=X.s₀.heap.objs.size
  noex:∀ b o,X.base.get? b=some o->b∉X.ex
  exfs:∀ b∈X.ex,b∉X.fs
  funs:X.s₀.heap.FunFrames X.base X.outer
  frf:∀ b∈X.fs,X.H₀ b=none
structure Inv (X:Cx) (pins:List (Addr×Obj)) (σ:List (Option V)) (H:Hp) (s:Shared):Prop where
  ok:X.Ok
  os:s.os=X.s₀.os
  bare:AllBare s.gens
  base:Un X.fs X.ex X.H₀ H X.s₀.heap s.heap
  loc:∃ m,s.heap.Ns X.env.locals m/\∀ (i:Nat) (x:Str) (v:V),X.N[i]?=some x->σ[i]?=some (some v)->Vis X.env.scope x->∃ u,RelV v u/\Look X.env s.heap m x u
  cell:∀ x c,X.env.cells.lookup x=some c->∃ v,s.heap.IsCell c v
  free:H X.env.locals=none
  freeC:∀ x c,X.env.cells.lookup x=some c->H c=none
  pin:∀ p∈X.pn++pins,s.heap.get? p.1=some p.2/\H p.1=none/\p.1≠X.env.locals/\p.1∉X.fs/\∀ v,p.2.data≠.cell v
  hok:HOk X.prog X.w H s.heap
  len:σ.length=X.N.length
section
variable {X:Cx} {pins:List (Addr×Obj)} {σ:List (Option V)} {H H':Hp} {s:Shared} {h':Heap}
theorem Cx.Ok.nofr (ok:X.Ok) {b:Addr} {o:Obj} (e:X.base.get? b=some o):b∉X.fs:=λ hb=>by
  have:=(ok.funs.mem hb).1
  rw [e] at this; cases this
theorem Inv.bs (I:Inv X pins σ H s):∀ b o,X.base.get? b=some o->s.heap.get? b=some o/\H b=none:=λ b o e =>
  ⟨I.base.keep b o (I.ok.bs b o e).1 (I.ok.bs b o e).2 (I.ok.nofr e) (I.ok.noex b o e),I.base.free b o (I.ok.bs b o e).1 (I.ok.bs b o e).2 (I.ok.noex b o e)⟩
theorem Inv.bk (I:Inv X pins σ H s):∀ b o,X.base.get? b=some o->s.heap.get? b=some o:=λ b o e=>(I.bs b o e).1
theorem Inv.mod (I:Inv X pins σ H s):Mod X.K X.mg X.base:=I.ok.mod
theorem Inv.kIn (I:Inv X pins σ H s):X.K.In s.heap:=I.ok.mod.kin.keeps I.bk
theorem Inv.lt (I:Inv X pins σ H s):X.env.locals < s.heap.objs.size:=let ⟨_,hn,_⟩:=I.loc; hn.lt
theorem Inv.sz (I:Inv X pins σ H s):X.s₀.heap.objs.size<=s.heap.objs.size:=Nat.le_trans I.ok.above (Nat.le_of_lt I.lt)
theorem Inv.nofs (I:Inv X pins σ H s) {a:Addr} (h:s.heap.objs.size<=a):a∉X.fs:=λ hb=>by
  obtain ⟨_,o,ho,_⟩:=I.ok.funs.mem hb
  exact absurd (Nat.lt_of_lt_of_le (Heap.lt_size ho) (Nat.le_trans I.sz h)) (Nat.lt_irrefl _)
theorem Inv.cne (I:Inv X pins σ H s):∀ x c,X.env.cells.lookup x=some c->c≠X.env.locals:=λ x c e z=>by
  obtain ⟨v,o,ho,hd⟩:=I.cell x c e
  obtain ⟨m,⟨o',es,ep,ho',hd',_⟩,_⟩:=I.loc
  rw [z,ho'] at ho; cases ho; rw [hd'] at hd; cases hd
theorem Inv.funs (I:Inv X pins σ H s):s.heap.FunFrames X.base X.outer:=by
  have all:∀ (l:List Env),(∀ b∈frs l,b∈X.fs)->X.s₀.heap.FunFrames X.base l->s.heap.FunFrames X.base l:=by
    intro l
    induction l with
    | nil=>intro _ _; trivial
    | cons env r ih =>
      intro hs hl
      obtain ⟨hk,⟨L,o,hf,hn,ho,hd⟩,hr⟩:=hl
      have hL:L∈X.fs:=hs L (by unfold frs; rw [List.filterMap_cons,hf]; exact List.mem_cons_self)
      obtain ⟨sl,e⟩:=I.base.slot L o ho (I.ok.frf L hL) hL λ z=>I.ok.exfs L z hL
      exact ⟨hk,⟨L,_,hf,hn,e,hd⟩,ih (λ b hb=>hs b (by unfold frs; rw [List.filterMap_cons,hf]; exact List.mem_cons_of_mem _ hb)) hr⟩
  exact all X.outer (λ _ hb=>hb) I.ok.funs
theorem Inv.stack (I:Inv X pins σ H s):s.heap.FunFrames X.base X.stack:=by
  rcases I.ok.stk with e | ⟨e,hf⟩
  · rw [e]; exact I.funs
  · rw [e]
    obtain ⟨m,hn,_⟩:=I.loc
    refine .cons (by rw [I.ok.kind]; decide) hf hn ?_ I.funs
    exact Heap.get?_none_of_le (Nat.le_trans I.ok.bsz I.ok.above)
theorem Inv.stkSub (I:Inv X pins σ H s):∀ b∈frs X.stack,b∈X.env.locals::X.fs:=λ b hb=>by
  rcases I.ok.stk with e | ⟨e,hf⟩
  · rw [e] at hb; exact List.mem_cons_of_mem _ hb
  · rw [e] at hb
    unfold frs at hb
    rw [List.filterMap_cons,hf] at hb
    exact hb
theorem Inv.stkFree (I:Inv X pins σ H s):∀ b∈frs X.stack,H b=none:=λ b hb=>by
  rcases List.mem_cons.mp (I.stkSub b hb) with e | hb
  · rw [e]; exact I.free
  · obtain ⟨_,o,ho,_⟩:=I.ok.funs.mem hb
    exact I.base.free b o ho (I.ok.frf b hb) λ z=>I.ok.exfs b z hb
theorem Inv.step {g':Array GenState} {t':Nat} {d':Drawn} {ch:List Addr} (I:Inv X pins σ H s)
    (hch:∀ b∈ch,(b∈X.ex∨X.s₀.heap.objs.size<=b)/\b≠X.env.locals/\(∀ x c,X.env.cells.lookup x=some c->c≠b)/\∀ p∈X.pn++pins,p.1≠b)
    (keep:∀ b o,b≠X.env.locals->b∉X.fs->b∉ch->s.heap.get? b=some o->H b=none->h'.get? b=some o)
    (slot:∀ b o,b≠X.env.locals->b∈X.fs->b∉ch->s.heap.get? b=some o->H b=none->∃ sl,h'.get? b=some { o with slots:=sl }) (free:∀ b o,b∉ch->s.heap.get? b=some o->H b=none->H' b=none)
    (there:∀ b o,b∉ch->s.heap.get? b=some o->∃ o',h'.get? b=some o')
    (tups:∀ b xs,H b=some (.tup xs)->H' b=some (.tup xs)) (frzs:∀ b o u,H b=some (.frz o u)->H' b=some (.frz o u)) (tbls:∀ b ps,H b=some (.tbl ps)->∃ more,H' b=some (.tbl (ps++more)))
    (ns:∀ m,s.heap.Ns X.env.locals m->h'.Ns X.env.locals m) (hok:HOk X.prog X.w H' h') (hg:AllBare g') :
    Inv X pins σ H' { s with heap:=h',gens:=g',drawn:=d',toks:=t' }:=by
  have neL:∀ b o,X.s₀.heap.get? b=some o->b≠X.env.locals:=λ b o e=>Nat.ne_of_lt (Nat.lt_of_lt_of_le (Heap.lt_size e) I.ok.above)
  have neC:∀ b o,X.s₀.heap.get? b=some o->b∉X.ex->b∉ch:=λ b o e hx hb=>by
    rcases (hch b hb).1 with z | z
    · exact hx z
    · exact absurd (Nat.lt_of_lt_of_le (Heap.lt_size e) z) (Nat.lt_irrefl _)
  have cellK:∀ x c,X.env.cells.lookup x=some c->∀ v,s.heap.IsCell c v->h'.IsCell c v:=λ x c e v ⟨o,ho,hd⟩=>by
    have nch:c∉ch:=λ z=>(hch c z).2.2.1 x c e rfl
    by_cases hc:c∈X.fs
    · obtain ⟨sl,q⟩:=slot c o (I.cne x c e) hc nch ho (I.freeC x c e)
      exact ⟨_,q,hd⟩
    · exact ⟨o,keep c o (I.cne x c e) hc nch ho (I.freeC x c e),hd⟩
  refine ⟨I.ok,I.os,hg,⟨λ b o e n hb hx=>?_,λ b o e n hb hx=>?_,λ b o e n hx=>?_,λ b o e hx=>?_,λ b xs e=>tups b xs (I.base.tups b xs e),λ b o xs e=>frzs b o xs (I.base.frzs b o xs e),λ b ps e=>?_⟩,?_,λ x c e=>?_,?_,λ x c e=>?_,λ p hp=>?_,hok,I.len⟩
  · exact keep b o (neL b o e) hb (neC b o e hx) (I.base.keep b o e n hb hx) (I.base.free b o e n hx)
  · obtain ⟨sl,e1⟩:=I.base.slot b o e n hb hx
    obtain ⟨sl',e2⟩:=slot b _ (neL b o e) hb (neC b o e hx) e1 (I.base.free b o e n hx)
    exact ⟨sl',e2⟩
  · obtain ⟨o',e1⟩:=I.base.there b o e hx
    exact free b o' (neC b o e hx) e1 (I.base.free b o e n hx)
  · obtain ⟨o',e1⟩:=I.base.there b o e hx
    exact there b o' (neC b o e hx) e1
  · obtain ⟨m1,e1⟩:=I.base.tbls b ps e
    obtain ⟨m2,e2⟩:=tbls b _ e1
    exact ⟨m1++m2,by rw [e2,Array.append_assoc]⟩
  · obtain ⟨m,hn,hl⟩:=I.loc
    refine ⟨m,ns m hn,λ i x v e1 e2 e3=>?_⟩
    obtain ⟨u,r,l⟩:=hl i x v e1 e2 e3
    refine ⟨u,r,?_⟩
    rcases l with l | ⟨k,c,e,z⟩
    · exact .inl l
    · exact .inr ⟨k,c,e,cellK x c e _ z⟩
  · obtain ⟨v,z⟩:=I.cell x c e
    exact ⟨v,cellK x c e v z⟩
  · obtain ⟨m,⟨o,_,_,ho,_⟩,_⟩:=I.loc
    exact free _ o (λ z=>(hch _ z).2.1 rfl) ho I.free
  · obtain ⟨v,o,ho,hd⟩:=I.cell x c e
    exact free c o (λ z=>(hch c z).2.2.1 x c e rfl) ho (I.freeC x c e)
  · obtain ⟨e,n,ne,nf,d⟩:=I.pin p hp
    have nch:p.1∉ch:=λ z=>(hch p.1 z).2.2.2 p hp rfl
    exact ⟨keep p.1 p.2 ne nf nch e n,free p.1 p.2 nch e n,ne,nf,d⟩
theorem Inv.un {t':Nat} (I:Inv X pins σ H s) (u:Un X.fs [] H H' s.heap h') (hok:HOk X.prog X.w H' h'):Inv X pins σ H' { s with heap:=h',toks:=t' }:=by
  obtain ⟨m,⟨o,es,ep,ho,r⟩,_⟩:=id I.loc
  obtain ⟨sl,hL⟩:=u.any ho I.free (by simp)
  exact I.step (g':=s.gens) (d':=s.drawn) (ch:=[]) (λ _ z=>nomatch z) (λ b o _ hb _ e n=>u.keep b o e n hb (by simp)) (λ b o _ hb _ e n=>u.slot b o e n hb (by simp)) (λ b o _ e n=>u.free b o e n (by simp)) (λ b o _ e=>u.there b o e (by simp)) u.tups u.frzs u.tbls (λ m' hm=>by
    obtain ⟨o',es',ep',ho',r'⟩:=hm
    rw [ho] at ho'; cases ho'
    exact ⟨_,es',ep',hL,r'⟩) hok I.bare
theorem Inv.call {g':Array GenState} {t':Nat} {d':Drawn} {ch:List Addr} (I:Inv X pins σ H s) (u:Un (frs X.stack) ch H H' s.heap h') (hok:HOk X.prog X.w H' h') (hg:AllBare g')
    (hch:∀ b∈ch,(b∈X.ex∨X.s₀.heap.objs.size<=b)/\b≠X.env.locals/\(∀ x c,X.env.cells.lookup x=some c->c≠b)/\∀ p∈X.pn++pins,p.1≠b) :
    Inv X pins σ H' { s with heap:=h',gens:=g',drawn:=d',toks:=t' }:=by
  obtain ⟨m,⟨o,es,ep,ho,r⟩,_⟩:=id I.loc
  obtain ⟨sl,hL⟩:=u.any ho I.free λ z=>(hch _ z).2.1 rfl
  exact I.step (ch:=ch) hch (λ b o hL hb hc e n=>u.keep b o e n (λ z=>(List.mem_cons.mp (I.stkSub b z)).elim hL hb) hc) (λ b o _ _ hc e n=>u.any e n hc) (λ b o hc e n=>u.free b o e n hc) (λ b o hc e=>u.there b o e hc) u.tups u.frzs u.tbls (λ m' hm=>by
    obtain ⟨o',es',ep',ho',r'⟩:=hm
    rw [ho] at ho'; cases ho'
    exact ⟨_,es',ep',hL,r'⟩) hok hg
theorem Inv.turned {t':Nat} {it:Addr} (I:Inv X pins σ H s) (k:∀ b o,b≠it->s.heap.get? b=some o->h'.get? b=some o) (hn:H it=none) (hL:it≠X.env.locals)
    (h1:it∈X.ex∨X.s₀.heap.objs.size<=it) (h2:∀ x c,X.env.cells.lookup x=some c->c≠it) (h3:∀ p∈X.pn++pins,p.1≠it):Inv X pins σ H { s with heap:=h',toks:=t' }:=by
  have nit:∀ b u,H b=some u->b≠it:=λ b u e z=>by rw [z,hn] at e; cases e
  refine I.step (g':=s.gens) (d':=s.drawn) (ch:=[it]) (λ b hb=>?_) (λ b o _ _ hc e _=>k b o (λ z=>hc (by simp [z])) e) (λ b o _ _ hc e _=>⟨o.slots,k b o (λ z=>hc (by simp [z])) e⟩) (λ _ _ _ _ n=>n)
    (λ b o hc e=>⟨o,k b o (λ z=>hc (by simp [z])) e⟩) (λ _ _ e=>e) (λ _ _ _ e=>e) (λ b ps e=>⟨#[],by rw [e]; simp⟩) (λ m hm=>?_) (λ b u e=>?_) I.bare
  · have e:b=it:=by simpa using hb
    subst e
    exact ⟨h1,hL,h2,h3⟩
  · obtain ⟨o,es,ep,ho,r⟩:=hm
    exact ⟨o,es,ep,k _ o (Ne.symm hL) ho,r⟩
  · refine (I.hok b u e).stay (λ c v hc q=>k c v ?_ q) (λ _ q=>q) λ _ _ q=>q
    rcases hc with z | z
    · rw [z]; exact nit b u e
    · exact nit c _ z
theorem Inv.tok (I:Inv X pins σ H s) (t:Nat):Inv X pins σ H { s with toks:=t }:=I.un (h':=s.heap) (t':=t) Un.refl I.hok
theorem Inv.kept {t':Nat} (I:Inv X pins σ H s) (k:∀ b u,s.heap.get? b=some u->h'.get? b=some u):Inv X pins σ H { s with heap:=h',toks:=t' }:=I.un (Un.kept k) (I.hok.kept k)
theorem Inv.laid {a:Addr} {o:HO} {t':Nat} (I:Inv X pins σ H s) (k:∀ b u,s.heap.get? b=some u->h'.get? b=some u) (hp:s.heap.objs.size<=a) (new:ObjOk X.prog X.w (upd H a o) h' a o) :
    Inv X pins σ (upd H a o) { s with heap:=h',toks:=t' }:=I.un (Un.laid k hp (I.hok.fresh hp)) (I.hok.laid k hp new)
theorem Inv.write {x e:Addr} {o:HO} {t':Nat} (I:Inv X pins σ H s) (mu:Mut (H x)) (he:e=x∨H e=some (.own x)) (k:∀ b u,b≠e->s.heap.get? b=some u->h'.get? b=some u) (heo:∃ u,h'.get? e=some u)
    (new:ObjOk X.prog X.w (upd H x o) h' x o):Inv X pins σ (upd H x o) { s with heap:=h',toks:=t' }:=I.un (Un.write mu he k heo) (I.hok.write mu he k heo new)
theorem Inv.pins_of {pins':List (Addr×Obj)} (I:Inv X pins σ H s) (h:∀ p∈pins',s.heap.get? p.1=some p.2/\H p.1=none/\p.1≠X.env.locals/\p.1∉X.fs/\∀ v,p.2.data≠.cell v):Inv X pins' σ H s :=
  ⟨I.ok,I.os,I.bare,I.base,I.loc,I.cell,I.free,I.freeC,λ p hp=>(List.mem_append.mp hp).elim (λ z=>I.pin p (List.mem_append_left _ z)) (h p),I.hok,I.len⟩
theorem nodup_ix {N:List Str} (hN:N.Nodup) {i j:Nat} {x:Str} (a:N[i]?=some x) (b:N[j]?=some x):i=j:=by
  obtain ⟨h1,e1⟩:=List.getElem?_eq_some_iff.mp a
  obtain ⟨h2,e2⟩:=List.getElem?_eq_some_iff.mp b
  exact (List.getElem_inj hN).mp (e1.trans e2.symm)
theorem store_ok2 {M:Model} {A:Around} {E:Value->Shared->Prop} {i:Nat} {x:Str} {v:V} {u:Value} {Q:Unit->Shared->Prop} (I:Inv X pins σ H s) (hN:X.N.Nodup) (hi:X.N[i]?=some x) (hx:Loc X.env.scope x) (r:RelV v u)
    (h:∀ s',Inv X pins (σ.set i (some v)) H s'->(∃ a,Heap.SameBut a s.heap s'.heap/\(a=X.env.locals∨X.env.cells.lookup x=some a))->Q () s') (hf:X.fn x=true∨X.env.scope.names.lookup x=some .local:=by first | exact .inl rfl | exact .inr rfl | assumption):wpAny M A (storeName X.env x u) Q E s:=by
  obtain ⟨m,hn,hl⟩:=id I.loc
  have hcls:(X.env.scope.kind == .class||(X.env.scope.kind == .module&&X.env.locals != X.env.globals))=false:=by rw [I.ok.kind]; rfl
  have hiσ:i < σ.length:=by rw [I.len]; exact (List.getElem?_eq_some_iff.mp hi).1
  have cne:=I.cne
  have tracked:∀ {a:Addr} {h':Heap},(∃ o,s.heap.get? a=some o/\H a=none)->Heap.SameBut a s.heap h'->HOk X.prog X.w H h':=λ {a h'} ha hs b ob e=>by
    obtain ⟨_,_,hfree⟩:=ha
    refine (I.hok b ob e).stay (λ c w' hc q=>(hs.2 c ?_).trans q) (λ _ q=>q) λ _ _ q=>q
    rintro rfl
    rcases hc with rfl | hc
    · rw [hfree] at e; cases e
    · rw [hfree] at hc; cases hc
  rcases hx with hk | hk
  · refine wpAny_storeName_local hk hn (λ h' hn' hs=>?_) hcls
    obtain ⟨oL,_,_,hoL,_⟩:=id hn
    refine h _ ⟨I.ok,I.os,I.bare,⟨λ b o e n hb hx=>?_,λ b o e n hb hx=>?_,I.base.free,λ b o e hx=>?_,I.base.tups,I.base.frzs,I.base.tbls⟩,⟨_,hn',λ j y v' e1 e2 e3=>?_⟩,λ y c e=>?_,I.free,I.freeC,λ p hp=>?_,tracked ⟨oL,hoL,I.free⟩ hs,by simpa using I.len⟩ ⟨_,hs,.inl rfl⟩
    · exact (hs.2 b (Nat.ne_of_lt (Nat.lt_of_lt_of_le (Heap.lt_size e) I.ok.above))).trans (I.base.keep b o e n hb hx)
    · obtain ⟨sl,e1⟩:=I.base.slot b o e n hb hx
      exact ⟨sl,(hs.2 b (Nat.ne_of_lt (Nat.lt_of_lt_of_le (Heap.lt_size e) I.ok.above))).trans e1⟩
    · obtain ⟨o',e1⟩:=I.base.there b o e hx
      exact ⟨o',(hs.2 b (Nat.ne_of_lt (Nat.lt_of_lt_of_le (Heap.lt_size e) I.ok.above))).trans e1⟩
    · by_cases hj:j=i
      · subst hj
        rw [hi] at e1; cases e1
        rw [List.getElem?_set_self hiσ] at e2
        cases e2
        exact ⟨u,r,.inl ⟨hk,by simp⟩⟩
      · rw [List.getElem?_set_ne (Ne.symm hj)] at e2
        obtain ⟨u',r',q⟩:=hl j y v' e1 e2 e3
        refine ⟨u',r',?_⟩
        rcases q with ⟨k,e⟩ | ⟨k,c,e,z⟩
        · refine .inl ⟨k,?_⟩
          have:y≠x:=λ e=>hj (nodup_ix hN e1 (e ▸ hi))
          simp [this,e]
        · exact .inr ⟨k,c,e,z.sameBut hs (cne y c e)⟩
    · obtain ⟨w',z⟩:=I.cell y c e
      exact ⟨w',z.sameBut hs (cne y c e)⟩
    · obtain ⟨e,n,ne,nf,d⟩:=I.pin p hp
      exact ⟨(hs.2 p.1 ne).trans e,n,ne,nf,d⟩
  · have hfn:X.fn x=true:=by
      rcases hf with z | z
      · exact z
      · rw [z] at hk; cases hk
    obtain ⟨c,hc⟩:=I.ok.has x (.inl hk)
    obtain ⟨w',z⟩:=I.cell x c hc
    refine wpAny_storeName_cell I.ok.kind hk hc z (λ h' hc' hs=>?_)
    obtain ⟨oc,hoc,hocd⟩:=id z
    refine h { s with heap:=h' } ⟨I.ok,I.os,I.bare,⟨λ b o e n hb hx=>?_,λ b o e n hb hx=>?_,I.base.free,λ b o e hx=>?_,I.base.tups,I.base.frzs,I.base.tbls⟩,⟨m,hn.sameBut hs (Ne.symm (cne x c hc)),λ j y v' e1 e2 e3=>?_⟩,λ y c' e=>?_,I.free,I.freeC,λ p hp=>?_,tracked ⟨oc,hoc,I.freeC x c hc⟩ hs,by simpa using I.len⟩ ⟨c,hs,.inr hc⟩
    · exact (hs.2 b (Nat.ne_of_lt (Nat.lt_of_lt_of_le (Heap.lt_size e) (I.ok.cab x c hfn hc)))).trans (I.base.keep b o e n hb hx)
    · obtain ⟨sl,e1⟩:=I.base.slot b o e n hb hx
      exact ⟨sl,(hs.2 b (Nat.ne_of_lt (Nat.lt_of_lt_of_le (Heap.lt_size e) (I.ok.cab x c hfn hc)))).trans e1⟩
    · obtain ⟨o',e1⟩:=I.base.there b o e hx
      exact ⟨o',(hs.2 b (Nat.ne_of_lt (Nat.lt_of_lt_of_le (Heap.lt_size e) (I.ok.cab x c hfn hc)))).trans e1⟩
    · by_cases hj:j=i
      · subst hj
        rw [hi] at e1; cases e1
        rw [List.getElem?_set_self hiσ] at e2
        cases e2
        exact ⟨u,r,.inr ⟨.inl hk,c,hc,hc'⟩⟩
      · rw [List.getElem?_set_ne (Ne.symm hj)] at e2
        obtain ⟨u',r',q⟩:=hl j y v' e1 e2 e3
        refine ⟨u',r',?_⟩
        rcases q with q | ⟨k,c',e,z'⟩
        · exact .inl q
        · refine .inr ⟨k,c',e,z'.sameBut hs ?_⟩
          rintro rfl
          exact hj (nodup_ix hN e1 (I.ok.inj _ _ _ e hc ▸ hi))
    · by_cases hcc:c'=c
      · subst hcc; exact ⟨_,hc'⟩
      · obtain ⟨w2,z2⟩:=I.cell y c' e
        exact ⟨w2,z2.sameBut hs hcc⟩
    · obtain ⟨e,n,ne,nf,d⟩:=I.pin p hp
      refine ⟨(hs.2 p.1 ?_).trans e,n,ne,nf,d⟩
      intro q
      rw [q,hoc] at e
      have q':oc=p.2:=Option.some.inj e
      exact d w' (by rw [<- q']; exact hocd)
theorem store_ok {M:Model} {A:Around} {E:Value->Shared->Prop} {i:Nat} {x:Str} {v:V} {u:Value} {Q:Unit->Shared->Prop} (I:Inv X pins σ H s) (hN:X.N.Nodup) (hi:X.N[i]?=some x) (hx:Loc X.env.scope x) (r:RelV v u)
    (h:∀ s',Inv X pins (σ.set i (some v)) H s'->Q () s') (hf:X.fn x=true∨X.env.scope.names.lookup x=some .local:=by first | exact .inl rfl | exact .inr rfl | assumption):wpAny M A (storeName X.env x u) Q E s :=
  store_ok2 I hN hi hx r (λ s' I' _=>h s' I') hf
theorem Inv.call' {s':Shared} {ch:List Addr} (I:Inv X pins σ H s) (ho:s'.os=s.os) (u:Un (frs X.stack) ch H H' s.heap s'.heap) (hok:HOk X.prog X.w H' s'.heap) (hg:AllBare s'.gens)
    (hch:∀ b∈ch,(b∈X.ex∨X.s₀.heap.objs.size<=b)/\b≠X.env.locals/\(∀ x c,X.env.cells.lookup x=some c->c≠b)/\∀ p∈X.pn++pins,p.1≠b):Inv X pins σ H' s':=by
  obtain ⟨h',g',d',t',o'⟩:=s'
  have e:o'=s.os:=ho
  subst e
  exact I.call (g':=g') (t':=t') (d':=d') u hok hg hch
end
noncomputable abbrev XK:=Value->Option Addr->Hp->Prop
noncomputable abbrev St:=List (Option V)
noncomputable abbrev VK:=V->Hp->Prop
noncomputable abbrev TE:=St->Hp->VK->Prop
noncomputable abbrev TT:=St->Hp->(Bool->Hp->Prop)->Prop
noncomputable abbrev TA:=St->Hp->(List V->Hp->Prop)->Prop
structure Ends where
  nx:St->Hp->Prop
  rt:VK
  bk:St->Hp->Prop:=λ _ _=>False
  ct:St->Hp->Prop:=λ _ _=>False
noncomputable abbrev TS:=Ends->St->Hp->Prop
noncomputable def EP (X:Cx) (pins:List (Addr×Obj)) (σ:St) (Q:VK) (u:Value) (s':Shared):Prop:=∃ v H',Inv X pins σ H' s'/\RelV v u/\Q v H'
noncomputable def TP (X:Cx) (pins:List (Addr×Obj)) (σ:St) (Q:Bool->Hp->Prop) (b:Bool) (s':Shared):Prop:=∃ H',Inv X pins σ H' s'/\Q b H'
noncomputable def AP (X:Cx) (pins:List (Addr×Obj)) (σ:St) (Q:List V->Hp->Prop) (us:List Value) (s':Shared):Prop:=∃ vs H',Inv X pins σ H' s'/\Vals vs us/\Q vs H'
noncomputable def SP (X:Cx) (pins:List (Addr×Obj)) (D:Ends) (f:Flow) (s':Shared):Prop :=
  match f with
  | .next=>∃ σ' H',Inv X pins σ' H' s'/\D.nx σ' H'
  | .brk=>∃ σ' H',Inv X pins σ' H' s'/\D.bk σ' H'
  | .cont=>∃ σ' H',Inv X pins σ' H' s'/\D.ct σ' H'
  | .ret u=>∃ v σ' H',Inv X pins σ' H' s'/\RelV v u/\D.rt v H'
noncomputable def PE (X:Cx) (e:Expr) (t:TE):Prop :=
  ∀ (pins:List (Addr×Obj)) (s:Shared) (σ:St) (H:Hp) (Q:VK),Inv X pins σ H s->t σ H Q->wpAny (model X.prog X.w) X.A (eval e X.env) (EP X pins σ Q) X.xe s
noncomputable def PT (X:Cx) (e:Expr) (t:TT):Prop :=
  ∀ (pins:List (Addr×Obj)) (s:Shared) (σ:St) (H:Hp) (Q:Bool->Hp->Prop),Inv X pins σ H s->t σ H Q->wpAny (model X.prog X.w) X.A (isTrue e X.env (eval e X.env)) (TP X pins σ Q) X.xe s
noncomputable def PW (X:Cx) (e:Expr) (t:TT):Prop :=
  ∀ (whole:Sem Value) (pins:List (Addr×Obj)) (s:Shared) (σ:St) (H:Hp) (Q:Bool->Hp->Prop),Inv X pins σ H s->t σ H Q->wpAny (model X.prog X.w) X.A (isTrue e X.env whole) (TP X pins σ Q) X.xe s
theorem PW.pt {X:Cx} {e:Expr} {t:TT} (h:PW X e t):PT X e t:=h _
noncomputable def PA (X:Cx) (es:List Expr) (t:TA):Prop :=
  ∀ (pos:Pos) (pins:List (Addr×Obj)) (s:Shared) (σ:St) (H:Hp) (Q:List V->Hp->Prop),Inv X pins σ H s->t σ H Q->wpAny (model X.prog X.w) X.A (spliced (backTo pos (starEach es X.env))) (AP X pins σ Q) X.xe s
noncomputable def PS (X:Cx) (st:Stmt) (t:TS):Prop :=
  ∀ (pins:List (Addr×Obj)) (s:Shared) (σ:St) (H:Hp) (D:Ends),Inv X pins σ H s->t D σ H->wpAny (model X.prog X.w) X.A (exec st X.env) (SP X pins D) X.xe s
noncomputable def PSs (X:Cx) (st:List Stmt) (t:TS):Prop :=
  ∀ (pins:List (Addr×Obj)) (s:Shared) (σ:St) (H:Hp) (D:Ends),Inv X pins σ H s->t D σ H->wpAny (model X.prog X.w) X.A (execs st X.env) (SP X pins D) X.xe s
theorem thn {α:Type} {t:Sem α} {Q Q':α->Shared->Prop} {M:Model} {A:Around} {E:Value->Shared->Prop} {s:Shared} (h:wpAny M A t Q E s) (hQ:∀ a s,Q a s->Q' a s):wpAny M A t Q' E s:=wpAny_mono h hQ λ _ _ x=>x
end L2
namespace L2
open PySem PySem.Spec PyProof.Rows
section
variable {X:Cx}
noncomputable def tVar (i:Nat):TE:=λ σ H Q=>∃ v,σ[i]?=some (some v)/\Q v H
noncomputable def tC (v:V):TE:=λ _ H Q=>Q v H
theorem pe_var {i:Nat} {x:Str} {pos:Pos} (hN:X.N[i]?=some x) (hv:Vis X.env.scope x) (hd:(x == ("__debug__":Str))=false:=by decide) (hcd:(x == ("__classdict__":Str))=false:=by decide):PE X (.Name x pos) (tVar i):=by
  intro pins s σ H Q I h
  obtain ⟨v,e,h⟩:=h
  obtain ⟨m,hn,hl⟩:=I.loc
  obtain ⟨u,r,l⟩:=hl i x v hN e hv
  have fin:EP X pins σ Q u s:=⟨v,H,I,r,h⟩
  rcases l with ⟨hk,hm⟩ | ⟨hk,c,hc,hcell⟩
  · exact wpAny_Name (wpAny_loadName_local I.ok.kind hk hn hm fin) hd
  · rcases hk with hk | hk
    · exact wpAny_Name (wpAny_loadName_cell I.ok.kind hk hc hcell fin) hd
    · exact wpAny_Name (wpAny_loadName_free I.ok.kind hk hc hcell fin hcd) hd
theorem pe_int {i j pos}:PE X (.Constant (.int i) j pos) (tC (.int i)):=λ _ _ _ H _ I h=>wpAny_Constant_int ⟨.int i,H,I.tok _,⟨_,rfl⟩,h⟩
theorem pe_bl {b j pos}:PE X (.Constant (.bool b) j pos) (tC (.bl b)):=λ _ _ _ H _ I h=>Constant_bool ⟨.bl b,H,I,rfl,h⟩
theorem pe_str {x j pos}:PE X (.Constant (.str x) j pos) (tC (.str x)):=λ _ _ _ H _ I h=>Calls.Constant_str ⟨.str x,H,I.tok _,⟨_,rfl⟩,h⟩
noncomputable def Gl (X:Cx) (x:Str):Prop:=X.env.kindOf x=some .globalImplicit
theorem ld_glob {E:Value->Shared->Prop} {pins:List (Addr×Obj)} {s:Shared} {σ:St} {H:Hp} {x:Str} {u:Value} {pos:Pos} {Q:Value->Shared->Prop} (I:Inv X pins σ H s) (hg:Gl X x) (hm:X.mg x=some u) (h:Q u s)
    (hd:(x == ("__debug__":Str))=false:=by decide):wpAny (model X.prog X.w) X.A (eval (.Name x pos) X.env) Q E s :=
  Calls.Name_function_global I.ok.kind hg (Calls.loadGlobal_global (by rw [I.ok.glob]; exact I.mod.glob.keeps I.bk) hm h) hd
theorem ld_blt {E:Value->Shared->Prop} {pins:List (Addr×Obj)} {s:Shared} {σ:St} {H:Hp} {x:Str} {u:Value} {pos:Pos} {Q:Value->Shared->Prop} (I:Inv X pins σ H s) (hg:Gl X x) (hm:X.mg x=none) (hv:bootBuiltins x=some u) (h:Q u s)
    (hn:x≠"__name__":=by decide) (hd:(x == ("__debug__":Str))=false:=by decide):wpAny (model X.prog X.w) X.A (eval (.Name x pos) X.env) Q E s:=by
  obtain ⟨mb,h1,h2⟩:=I.mod.blt
  exact Calls.Name_function_global I.ok.kind hg (Calls.loadGlobal_builtin (by rw [I.ok.glob]; exact I.mod.glob.keeps I.bk) hm (by rw [I.ok.blt]; exact h1.keeps I.bk) ((h2 x hn).trans hv) h) hd
theorem pe_glob {x:Str} {v:V} {u:Value} {pos:Pos} (hg:Gl X x) (hm:X.mg x=some u) (r:RelV v u) (hd:(x == ("__debug__":Str))=false:=by decide):PE X (.Name x pos) (tC v) :=
  λ _ _ _ H _ I h=>ld_glob I hg hm ⟨v,H,I,r,h⟩ hd
theorem pe_bltn {x:Str} {v:V} {u:Value} {pos:Pos} (hg:Gl X x) (hm:X.mg x=none) (hv:bootBuiltins x=some u) (r:RelV v u) (hn:x≠"__name__":=by decide) (hd:(x == ("__debug__":Str))=false:=by decide):PE X (.Name x pos) (tC v) :=
  λ _ _ _ H _ I h=>ld_blt I hg hm hv ⟨v,H,I,r,h⟩ hn hd
variable {a b:Expr} {ta tb:TE} {pos:Pos}
variable {tA tB':TT} {rest:List Expr}
noncomputable def tAnd (t u:TT):TT:=λ σ H Q=>t σ H λ c H1=>if c=true then u σ H1 Q else Q false H1
noncomputable def tOr (t u:TT):TT:=λ σ H Q=>t σ H λ c H1=>if c=true then Q true H1 else u σ H1 Q
noncomputable def tNot (t:TT):TT:=λ σ H Q=>t σ H λ c H1=>Q (!c) H1
theorem pw_and1 (ha:PT X a tA):PW X (.BoolOp .And [a] pos) tA:=by
  intro wh pins s σ H Q I h
  refine isTrue_and (thn (ha pins s σ H Q I h) λ c s1 e=>?_)
  cases c with
  | true=>exact isTrue_and_nil e
  | false=>exact e
theorem pw_or1 (ha:PT X a tA):PW X (.BoolOp .Or [a] pos) tA:=by
  intro wh pins s σ H Q I h
  refine isTrue_or (thn (ha pins s σ H Q I h) λ c s1 e=>?_)
  cases c with
  | false=>exact isTrue_or_nil e
  | true=>exact e
theorem pw_and (ha:PT X a tA) (hb:PW X (.BoolOp .And (b::rest) pos) tB'):PW X (.BoolOp .And (a::b::rest) pos) (tAnd tA tB'):=by
  intro wh pins s σ H Q I h
  refine isTrue_and (thn (ha pins s σ H _ I h) λ c s1 ⟨H1,I1,q1⟩=>?_)
  cases c with
  | true=>exact hb wh pins s1 σ H1 Q I1 q1
  | false=>exact ⟨H1,I1,q1⟩
theorem pw_or (ha:PT X a tA) (hb:PW X (.BoolOp .Or (b::rest) pos) tB'):PW X (.BoolOp .Or (a::b::rest) pos) (tOr tA tB'):=by
  intro wh pins s σ H Q I h
  refine isTrue_or (thn (ha pins s σ H _ I h) λ c s1 ⟨H1,I1,q1⟩=>?_)
  cases c with
  | true=>exact ⟨H1,I1,q1⟩
  | false=>exact hb wh pins s1 σ H1 Q I1 q1
theorem pt_not (ha:PT X a tA):PT X (.UnaryOp .Not a pos) (tNot tA):=by
  intro pins s σ H Q I h
  exact isTrue_not (ha pins s σ H (λ c H1=>Q (!c) H1) I h)
noncomputable def tAndV (ta tb:TE):TE:=λ σ H Q=>ta σ H λ x H1=>∃ c,x=.bl c/\if c=true then tb σ H1 Q else Q (.bl false) H1
noncomputable def tOrV (ta tb:TE):TE:=λ σ H Q=>ta σ H λ x H1=>∃ c,x=.bl c/\if c=true then Q (.bl true) H1 else tb σ H1 Q
noncomputable def tNotV (ta:TE):TE:=λ σ H Q=>ta σ H λ x H1=>∃ c,x=.bl c/\Q (.bl (!c)) H1
theorem pe_one {op} {t:TE} (h:PE X a t):PE X (.BoolOp op [a] pos) t:=λ pins s σ H Q I hw=>BoolOp_one (h pins s σ H Q I hw)
theorem pe_and (ha:PE X a ta) (hb:PE X (.BoolOp .And (b::rest) pos) tb):PE X (.BoolOp .And (a::b::rest) pos) (tAndV ta tb):=by
  intro pins s σ H Q I h
  refine BoolOp_and (thn (ha pins s σ H _ I h) λ v s1 ⟨x,H1,I1,r1,q1⟩=>?_)
  obtain ⟨c,rfl,q1⟩:=q1
  cases r1
  refine wpAny_truthy_bool ?_
  cases c with
  | true=>exact hb pins s1 σ H1 Q I1 q1
  | false=>exact ⟨.bl false,H1,I1,rfl,q1⟩
theorem pe_or (ha:PE X a ta) (hb:PE X (.BoolOp .Or (b::rest) pos) tb):PE X (.BoolOp .Or (a::b::rest) pos) (tOrV ta tb):=by
  intro pins s σ H Q I h
  refine BoolOp_or (thn (ha pins s σ H _ I h) λ v s1 ⟨x,H1,I1,r1,q1⟩=>?_)
  obtain ⟨c,rfl,q1⟩:=q1
  cases r1
  refine wpAny_truthy_bool ?_
  cases c with
  | false=>exact hb pins s1 σ H1 Q I1 q1
  | true=>exact ⟨.bl true,H1,I1,rfl,q1⟩
theorem pe_not (ha:PE X a ta):PE X (.UnaryOp .Not a pos) (tNotV ta):=by
  intro pins s σ H Q I h
  refine UnaryOp_ (thn (ha pins s σ H _ I h) λ v s1 ⟨x,H1,I1,r1,q1⟩=>?_)
  obtain ⟨c,rfl,q1⟩:=q1
  cases r1
  exact not_of (wpAny_truthy_bool ⟨.bl (!c),H1,I1,rfl,q1⟩)
end
end L2
namespace L2
open PySem PySem.Spec PyProof.Rows
noncomputable def SqL (K:PySem.W.Frag) (H:Hp) (a:Addr) (xs:List V):Prop :=
  Rd H a (.lst xs) ∨
    ∃ (o:Obj) (its:Array Value) (n:Nat),K.lookup a=some o/\o.cls=.type "list"/\o.dict=none/\o.data=.seq its n/\its.size<=sizeLine/\Vals xs its.toList
noncomputable def SqT (K:PySem.W.Frag) (H:Hp) (a:Addr) (xs:List V):Prop :=
  Rd H a (.tup xs) ∨
    ∃ (o:Obj) (its:Array Value) (n:Nat),K.lookup a=some o/\o.cls=.type "tuple"/\o.data=.seq its n/\its.size<=sizeLine/\Vals xs its.toList
noncomputable def absV:Value->Option V
  | .none=>some .non
  | .bool b=>some (.bl b)
  | .int i _=>some (.int i)
  | .str x _=>some (.str x)
  | .bytes b _=>some (.byt b)
  | .float b _=>some (.flt b)
  | .ref a=>some (.ref a)
  | .type n=>some (.ty n)
  | _=>none
theorem RelV.abs {x:V} {u:Value} (r:RelV x u):absV u=some x:=by
  cases x with
  | non=>cases r; rfl
  | bl _=>cases r; rfl
  | int _=>obtain ⟨t,rfl⟩:=r; rfl
  | str _=>obtain ⟨t,rfl⟩:=r; rfl
  | byt _=>obtain ⟨t,rfl⟩:=r; rfl
  | flt _=>obtain ⟨t,rfl⟩:=r; rfl
  | ref _=>cases r; rfl
  | ty _=>cases r; rfl
theorem RelV.inj {x y:V} {u:Value} (r:RelV x u) (q:RelV y u):x=y:=Option.some.inj (r.abs.symm.trans q.abs)
theorem Vals.inj:∀ {xs ys:List V} {us:List Value},Vals xs us->Vals ys us->xs=ys
  | _,_,_,.nil,.nil=>rfl
  | _,_,_,.cons r t,.cons r' t'=>by rw [r.inj r',Vals.inj t t']
section
variable {X:Cx} {pins:List (Addr×Obj)} {σ:St} {H:Hp} {s:Shared} {a:Addr} {xs ys:List V}
theorem SqL.of {K:PySem.W.Frag} (h:H a=some (.lst xs)):SqL K H a xs:=.inl (.inl h)
theorem SqT.of {K:PySem.W.Frag} (h:H a=some (.tup xs)):SqT K H a xs:=.inl (.inl h)
theorem Inv.list (I:Inv X pins σ H s) (h:SqL X.K H a xs):∃ its:List Value,Vals xs its/\PlainL s.heap a its.toArray/\xs.length<=sizeLine:=by
  rcases h with h | ⟨o,its,n,hk,hc,hd,hs,hz,r⟩
  · obtain ⟨z,its,n,r,e⟩:=h.ok I.hok
    exact ⟨its,r,⟨_,n,e,rfl,rfl,rfl⟩,z⟩
  · refine ⟨its.toList,r,⟨o,n,I.kIn a o hk,hc,hd,by simpa using hs⟩,?_⟩
    have e:=r.length
    simp only [Array.length_toList] at e
    omega
theorem Inv.tuple (I:Inv X pins σ H s) (h:SqT X.K H a xs):∃ its:List Value,Vals xs its/\IsTup s.heap a its.toArray/\xs.length<=sizeLine:=by
  rcases h with h | ⟨o,its,n,hk,hc,hs,hz,r⟩
  · obtain ⟨z,its,r,p⟩:=h.ok I.hok
    exact ⟨its,r,p,z⟩
  · refine ⟨its.toList,r,⟨o,I.kIn a o hk,hc,n,by simpa using hs⟩,?_⟩
    have e:=r.length
    simp only [Array.length_toList] at e
    omega
theorem Inv.list_inj (I:Inv X pins σ H s) (h:SqL X.K H a xs) (h':SqL X.K H a ys):xs=ys:=by
  obtain ⟨its,r,⟨o,n,e,_,_,d⟩,_⟩:=I.list h
  obtain ⟨its',r',⟨o',n',e',_,_,d'⟩,_⟩:=I.list h'
  rw [e] at e'; cases e'
  rw [d] at d'
  injection d' with d1 _
  have:its=its':=by simpa using congrArg Array.toList d1
  subst this
  exact r.inj r'
theorem Inv.tuple_inj (I:Inv X pins σ H s) (h:SqT X.K H a xs) (h':SqT X.K H a ys):xs=ys:=by
  obtain ⟨its,r,⟨o,e,_,n,d⟩,_⟩:=I.tuple h
  obtain ⟨its',r',⟨o',e',_,n',d'⟩,_⟩:=I.tuple h'
  rw [e] at e'; cases e'
  rw [d] at d'
  injection d' with d1 _
  have:its=its':=by simpa using congrArg Array.toList d1
  subst this
  exact r.inj r'
end
noncomputable abbrev Cx.wish (X:Cx) (E:Value->Shared->Prop):Cx:={ X with xe:=E }
noncomputable abbrev Cx.nox (X:Cx):Cx:=X.wish λ _ _=>False
theorem Cx.Ok.wish {X:Cx} (ok:X.Ok) (E:Value->Shared->Prop):(X.wish E).Ok :=
  ⟨ok.mod,ok.kind,ok.glob,ok.blt,ok.above,ok.inj,ok.has,ok.cab,ok.hd,ok.frames,ok.stk,ok.exf,ok.bs,ok.bsz,ok.noex,ok.exfs,ok.funs,ok.frf⟩
theorem Cx.Ok.unwish {X:Cx} {E:Value->Shared->Prop} (ok:(X.wish E).Ok):X.Ok :=
  ⟨ok.mod,ok.kind,ok.glob,ok.blt,ok.above,ok.inj,ok.has,ok.cab,ok.hd,ok.frames,ok.stk,ok.exf,ok.bs,ok.bsz,ok.noex,ok.exfs,ok.funs,ok.frf⟩
section
variable {X:Cx} {pins:List (Addr×Obj)} {σ:St} {H:Hp} {s:Shared} {E:Value->Shared->Prop}
theorem Inv.wish (I:Inv X pins σ H s) (E:Value->Shared->Prop):Inv (X.wish E) pins σ H s:=⟨I.ok.wish E,I.os,I.bare,I.base,I.loc,I.cell,I.free,I.freeC,I.pin,I.hok,I.len⟩
theorem Inv.unwish (I:Inv (X.wish E) pins σ H s):Inv X pins σ H s:=⟨I.ok.unwish,I.os,I.bare,I.base,I.loc,I.cell,I.free,I.freeC,I.pin,I.hok,I.len⟩
theorem SP.unwish {D:Ends} {f:Flow} {s':Shared} (h:SP (X.wish E) pins D f s'):SP X pins D f s':=by
  cases f with
  | next=>obtain ⟨σ',H',I,q⟩:=h; exact ⟨σ',H',I.unwish,q⟩
  | brk=>obtain ⟨σ',H',I,q⟩:=h; exact ⟨σ',H',I.unwish,q⟩
  | cont=>obtain ⟨σ',H',I,q⟩:=h; exact ⟨σ',H',I.unwish,q⟩
  | ret u=>obtain ⟨v,σ',H',I,r,q⟩:=h; exact ⟨v,σ',H',I.unwish,r,q⟩
end
section
variable {X:Cx} {st:Stmt} {rest:List Stmt} {t u:TS} {e:Expr} {te:TE} {pos:Pos}
noncomputable def tNext:TS:=λ D σ H=>D.nx σ H
noncomputable def tSeq (t u:TS):TS:=λ D σ H=>t { D with nx:=u D } σ H
theorem pss_nil:PSs X [] tNext:=λ _ _ σ H _ I h=>wpAny_execs_nil ⟨σ,H,I,h⟩
theorem pss_cons (h1:PS X st t) (h2:PSs X rest u):PSs X (st::rest) (tSeq t u):=by
  intro pins s σ H D I h
  refine wpAny_execs_cons (thn (h1 pins s σ H { D with nx:=u D } I h) λ f s1 q=>?_)
  cases f with
  | next =>
    obtain ⟨σ',H',I',q⟩:=q
    exact h2 pins s1 σ' H' D I' q
  | ret v=>exact q
  | brk=>exact q
  | cont=>exact q
theorem pss_one (h1:PS X st t):PSs X [st] t:=by
  intro pins s σ H D I h
  refine wpAny_execs_cons (thn (h1 pins s σ H D I h) λ f s1 q=>?_)
  cases f with
  | next=>exact wpAny_execs_nil q
  | ret v=>exact q
  | brk=>exact q
  | cont=>exact q
theorem Inv.quiet {pins:List (Addr×Obj)} {σ:St} {H:Hp} {s:Shared} (I:Inv X pins σ H s):interactive X.env=false:=by simp [interactive,I.ok.kind]
noncomputable def tDrop (te:TE):TS:=λ D σ H=>te σ H λ _ H1=>D.nx σ H1
theorem ps_expr (he:PE X e te) (hs:swapsWith e none pos.line X.env=pure false:=by rfl):PS X (.Expr e pos) (tDrop te):=by
  intro pins s σ H D I h
  exact wpAny_Expr_any (thn (he pins s σ H _ I h) λ v s1 ⟨x,H1,I1,r1,q1⟩=>⟨σ,H1,I1,q1⟩) I.quiet hs
noncomputable def tRet (te:TE):TS:=λ D σ H=>te σ H D.rt
theorem ps_ret (he:PE X e te):PS X (.Return (some e) pos) (tRet te):=by
  intro pins s σ H D I h
  exact wpAny_Return_some (thn (he pins s σ H _ I h) λ v s1 ⟨x,H1,I1,r1,q1⟩=>⟨x,σ,H1,I1,r1,q1⟩)
noncomputable def tIfS (c:TT) (t u:TS):TS:=λ D σ H=>c σ H λ b H1=>if b=true then t D σ H1 else u D σ H1
theorem ps_if {c:Expr} {a b:List Stmt} {tc:TT} (hc:PT X c tc) (ha:PSs X a t) (hb:PSs X b u):PS X (.If c a b pos) (tIfS tc t u):=by
  intro pins s σ H D I h
  refine wpAny_If (thn (hc pins s σ H _ I h) λ d s1 ⟨H1,I1,q1⟩=>?_)
  cases d with
  | true=>exact ha pins s1 σ H1 D I1 q1
  | false=>exact hb pins s1 σ H1 D I1 q1
end
noncomputable abbrev TG:=V->St->Hp->(St->Hp->Prop)->Prop
noncomputable abbrev TGs:=List V->St->Hp->(St->Hp->Prop)->Prop
noncomputable def PG (X:Cx) (target:Expr) (t:TG):Prop :=
  ∀ (pins:List (Addr×Obj)) (s:Shared) (σ:St) (H:Hp) (v:V) (u:Value) (Q:St->Hp->Prop),Inv X pins σ H s->RelV v u->t v σ H Q ->
    wpAny (model X.prog X.w) X.A (assign target X.env u) (λ _ s'=>∃ σ' H',Inv X pins σ' H' s'/\Q σ' H') X.xe s
noncomputable def PGs (X:Cx) (ts:List Expr) (t:TGs):Prop :=
  ∀ (pins:List (Addr×Obj)) (s:Shared) (σ:St) (H:Hp) (vs:List V) (us:List Value) (Q:St->Hp->Prop),Inv X pins σ H s->Vals vs us->t vs σ H Q ->
    wpAny (model X.prog X.w) X.A (assignInOrder ((assignEach ts X.env).map (·.2)) us) (λ _ s'=>∃ σ' H',Inv X pins σ' H' s'/\Q σ' H') X.xe s
section
variable {X:Cx} {pos:Pos}
noncomputable def gName (i:Nat):TG:=λ v σ H Q=>Q (σ.set i (some v)) H
theorem pg_name {i:Nat} {x:Str} (hN:X.N.Nodup) (hi:X.N[i]?=some x) (hx:Loc X.env.scope x) (hf:X.fn x=true∨X.env.scope.names.lookup x=some .local:=by first | exact .inl rfl | exact .inr rfl | assumption):PG X (.Name x pos) (gName i):=by
  intro pins s σ H v u Q I r h
  exact wpAny_assign_Name (store_ok I hN hi hx r (λ s' I'=>⟨_,H,I',h⟩) hf)
noncomputable def gNil:TGs:=λ vs σ H Q=>vs=[]/\Q σ H
noncomputable def gCons (t:TG) (u:TGs):TGs:=λ vs σ H Q=>∃ v r,vs=v::r/\t v σ H λ σ' H'=>u r σ' H' Q
theorem pgs_nil:PGs X [] gNil:=by
  intro pins s σ H vs us Q I r h
  obtain ⟨e,h⟩:=h
  subst e
  cases r
  exact assignInOrder_nil ⟨σ,H,I,h⟩
theorem pgs_cons {e:Expr} {es:List Expr} {t:TG} {u:TGs} (h1:PG X e t) (h2:PGs X es u)
    (hs:(assignEach (e::es) X.env).map (·.2)=assign e X.env::(assignEach es X.env).map (·.2):=by rfl):PGs X (e::es) (gCons t u):=by
  intro pins s σ H vs us Q I r h
  obtain ⟨v,vr,e1,h⟩:=h
  subst e1
  cases r with
  | cons r rr =>
    rw [hs]
    refine assignInOrder_cons (thn (h1 pins s σ H _ _ _ I r h) λ _ s1 ⟨σ1,H1,I1,q1⟩=>?_)
    exact h2 pins s1 σ1 H1 _ _ Q I1 rr q1
noncomputable def gTup (K:PySem.W.Frag) (n:Nat) (t:TGs):TG:=λ v σ H Q=>∃ a xs,v=.ref a/\SqT K H a xs/\xs.length=n/\t xs σ H Q
theorem pg_tup {es:List Expr} {k:Nat} {t:TGs} {n:Nat} (hc:X.calm=true) (h:PGs X es t)
    (hn:(assignEach es X.env).length=n:=by rfl) (hst:(assignEach es X.env).findIdx? (·.1)=none:=by rfl):PG X (.Tuple es k pos) (gTup X.K n t):=by
  intro pins s σ H v u Q I r hw
  obtain ⟨a,xs,e1,hq,hl,hw⟩:=hw
  subst e1
  cases r
  obtain ⟨its,rv,ht,hz⟩:=I.tuple hq
  refine assign_Tuple_tuple (I.ok.hd hc) ht (by simp [hn,<- hl,rv.length]) hst λ h' hx=>?_
  have I1:Inv X pins σ H { s with heap:=h' }:=I.kept (t':=s.toks) λ b o e=>hx b o (Nat.ne_of_lt (Heap.lt_size e)) e
  exact h pins _ σ H xs _ Q I1 (by simpa using rv) hw
noncomputable def tAsg (te:TE) (g:TG):TS:=λ D σ H=>te σ H λ x H1=>g x σ H1 D.nx
theorem ps_set {i:Nat} {x:Str} {e:Expr} {te:TE} {pos':Pos} (hN:X.N.Nodup) (hi:X.N[i]?=some x) (hx:Loc X.env.scope x) (he:PE X e te) (hs:swapsWith e (some (.Name x pos')) pos.line X.env=pure false:=by rfl) (hf:X.fn x=true∨X.env.scope.names.lookup x=some .local:=by first | exact .inl rfl | exact .inr rfl | assumption) :
    PS X (.Assign [.Name x pos'] e pos) (tAsg te (gName i)):=by
  intro pins s σ H D I h
  refine wpAny_Assign_Name (thn (he pins s σ H _ I h) λ v s1 ⟨y,H1,I1,r1,q1⟩=>?_) hs
  exact store_ok I1 hN hi hx r1 (λ s2 I2=>⟨_,H1,I2,q1⟩) hf
end
section
variable {X:Cx} {pos:Pos}
noncomputable def tWhile (c:TT) (tb:TS):TS:=λ D σ H=>∃ W:Nat->St->Hp->Prop,(∃ m,W m σ H)/\∀ m σ H,W m σ H ->
  c σ H λ b H1=>if b=true then ∃ N:St->Hp->Prop,(∀ σ' H',N σ' H'->∃ m',m' < m/\W m' σ' H')/\tb { D with nx:=N,ct:=N,bk:=D.nx } σ H1 else D.nx σ H1
theorem ps_while {c:Expr} {body:List Stmt} {tc:TT} {tb:TS} (hp:PassesOwn (model X.prog X.w) X.A X.env X.xe) (hc:PT X c tc) (hb:PSs X body tb):PS X (.While c body [] pos) (tWhile tc tb):=by
  intro pins s σ H D I h
  obtain ⟨W,⟨m0,w0⟩,turn⟩:=h
  refine wpAny_While (codeAny_whileLoop (λ n s'=>∃ σ' H',Inv X pins σ' H' s'/\W n σ' H') ?_ m0 ⟨σ,H,I,w0⟩)
  rintro n s1 ⟨σ1,H1,I1,w1⟩
  refine wpAny_passesOwn hp (thn (hc pins s1 σ1 H1 _ I1 (turn n σ1 H1 w1)) λ b s2 ⟨H2,I2,q2⟩=>?_)
  cases b with
  | true =>
    obtain ⟨N,hN,q2⟩:=q2
    rw [if_pos rfl]
    refine wpAny_passesOwn hp (thn (hb pins s2 σ1 H2 _ I2 q2) λ f s3 q3=>?_)
    cases f with
    | next =>
      obtain ⟨σ3,H3,I3,n3⟩:=q3
      obtain ⟨m',hm,w3⟩:=hN σ3 H3 n3
      exact ⟨m',hm,σ3,H3,I3,w3⟩
    | cont =>
      obtain ⟨σ3,H3,I3,n3⟩:=q3
      obtain ⟨m',hm,w3⟩:=hN σ3 H3 n3
      exact ⟨m',hm,σ3,H3,I3,w3⟩
    | brk=>exact q3
    | ret v=>exact q3
  | false =>
    rw [if_neg Bool.false_ne_true]
    exact wpAny_execs_nil ⟨σ1,H2,I2,q2⟩
end
structure It where
  go:Nat->Hp->Prop
  yld:Nat->Hp->V->Hp->Prop
  stop:Nat->Hp->Prop
noncomputable def FpOk (X:Cx) (pins:List (Addr×Obj)) (H:Hp) (b:Addr):Prop :=
  H b=none/\b≠X.env.locals/\b∉X.fs/\(b∈X.ex∨X.s₀.heap.objs.size<=b)/\(∀ x c,X.env.cells.lookup x=some c->c≠b)/\∀ p∈X.pn++pins,p.1≠b
theorem Inv.fpOk {X:Cx} {pins:List (Addr×Obj)} {σ:St} {H H':Hp} {s:Shared} {b:Addr} (I:Inv X pins σ H s) (hb:s.heap.objs.size<=b) (hn:H' b=none):FpOk X pins H' b:=by
  refine ⟨hn,Nat.ne_of_gt (Nat.lt_of_lt_of_le I.lt hb),I.nofs hb,.inr (Nat.le_trans I.sz hb),λ x c e z=>?_,λ p hp z=>?_⟩
  · obtain ⟨v,q⟩:=I.cell x c e
    exact absurd (Nat.lt_of_lt_of_le q.lt (by rw [z]; exact hb)) (Nat.lt_irrefl _)
  · exact absurd (Nat.lt_of_lt_of_le (Heap.lt_size (I.pin p hp).1) (by rw [z]; exact hb)) (Nat.lt_irrefl _)
structure Turn (P:Program) (w:World) (K:PySem.W.Frag) (tg:Expr) (J:It) (fp:List Addr) (it:Addr) (tn:Nat->Heap->Prop):Prop where
  mem:it∈fp
  obj:∀ i h,tn i h->∀ b∈fp,∃ o,h.get? b=some o/\∀ v,o.data≠.cell v
  keep:∀ i h h',tn i h->(∀ b∈fp,∀ o,h.get? b=some o->h'.get? b=some o)->tn i h'
  item:∀ (X:Cx),X.prog=P->X.w=w->X.K=K->X.calm=true->∀ (i:Nat) (pins:List (Addr×Obj)) (s:Shared) (σ:St) (H:Hp) (E:Value->Shared->Prop),Inv X pins σ H s->(∀ b∈fp,FpOk X pins H b)->tn i s.heap->J.go i H ->
    wpAny (model P w) X.A (pyNext (.ref it)) (λ r s1=>∃ u,r=some u /\
      wpAny (model P w) X.A (letOwnedTupleGo tg (.ref it) u) (λ _ s2=>∃ x H',Inv X pins σ H' s2/\RelV x u/\J.yld i H x H'/\tn (i + 1) s2.heap/\∀ b∈fp,H' b=none) E s1) E s
  done:∀ (X:Cx),X.prog=P->X.w=w->X.K=K->X.calm=true->∀ (i:Nat) (pins:List (Addr×Obj)) (s:Shared) (σ:St) (H:Hp) (E:Value->Shared->Prop),Inv X pins σ H s->(∀ b∈fp,FpOk X pins H b)->tn i s.heap->J.stop i H ->
    wpAny (model P w) X.A (pyNext (.ref it)) (λ r s1=>r=none/\Inv X pins σ H s1) E s
  self:∀ (A:Around) (i:Nat) (s:Shared) (Q:Value->Shared->Prop) (E:Value->Shared->Prop),tn i s.heap->Q (.ref it) s->wpAny (model P w) A (pyIter (.ref it)) Q E s
noncomputable abbrev TI:=St->Hp->(It->Hp->Prop)->Prop
noncomputable def PIE (X:Cx) (pins:List (Addr×Obj)) (σ:St) (tg:Expr) (R:It->Hp->Prop) (itv:Value) (s2:Shared):Prop :=
  ∃ (it:Addr) (fp:List Addr) (tn:Nat->Heap->Prop) (J:It) (H':Hp),itv=.ref it/\Inv X pins σ H' s2/\Turn X.prog X.w X.K tg J fp it tn/\tn 0 s2.heap/\(∀ b∈fp,FpOk X pins H' b)/\R J H'
noncomputable def PI (X:Cx) (tg iter:Expr) (wi:TI):Prop :=
  ∀ (pins:List (Addr×Obj)) (s:Shared) (σ:St) (H:Hp) (R:It->Hp->Prop),Inv X pins σ H s->wi σ H R ->
    wpAny (model X.prog X.w) X.A (eval iter X.env) (λ v s1=>wpAny (model X.prog X.w) X.A (pyIter v) (PIE X pins σ tg R) X.xe s1) X.xe s
theorem go_of {M:Model} {A:Around} {E:Value->Shared->Prop} {s:Shared} {tg:Expr} {it:Addr} {u:Value} {o:Obj} {n:String} {vs:Array Value} {Q:Unit->Shared->Prop} (ho:s.heap.get? it=some o) (hc:o.cls=.type n) (hd:o.data=.fields vs)
    (hn:["enumerate","zip","dict_itemiterator","dict_reverseitemiterator","odict_iterator","itertools.zip_longest","itertools.pairwise"].contains n=false) (hQ:Q () s):wpAny M A (letOwnedTupleGo tg (.ref it) u) Q E s:=by
  unfold letOwnedTupleGo
  cases tg <;> first
    | exact wpAny_pure hQ
    | (cases u <;> first
        | exact wpAny_pure hQ
        | (refine wpAny_bind (wpAny_load ho ?_)
           rw [hc,hd]
           show wpAny M A (if (["enumerate","zip","dict_itemiterator","dict_reverseitemiterator","odict_iterator","itertools.zip_longest","itertools.pairwise"].contains n&&vs[0]? == some (rawInt _))=true then _ else _) Q E s
           rw [if_neg (by intro h; rw [hn,Bool.false_and] at h; cases h)]
           exact wpAny_pure hQ))
noncomputable def Itl (K:PySem.W.Frag) (a:Addr):It :=
  ⟨λ i H=>∃ xs x,SqL K H a xs/\xs[i]?=some x,λ i H x H'=>H'=H/\∀ xs,SqL K H a xs->xs[i]?=some x,λ i H=>∃ xs,SqL K H a xs/\xs.length<=i⟩
noncomputable def Itt (K:PySem.W.Frag) (a:Addr):It :=
  ⟨λ i H=>∃ xs x,SqT K H a xs/\xs[i]?=some x,λ i H x H'=>H'=H/\∀ xs,SqT K H a xs->xs[i]?=some x,λ i H=>∃ xs,SqT K H a xs/\xs.length<=i⟩
noncomputable def Itr (lo:Int) (n:Nat):It:=⟨λ i _=>i < n,λ i H x H'=>H'=H/\x=.int (lo + i),λ i _=>n<=i⟩
theorem turn_list {P:Program} {w:World} {K:PySem.W.Frag} {tg:Expr} (a it:Addr):Turn P w K tg (Itl K a) [it] it (λ i h=>h.IsListIter it a i) where
  mem:=by simp
  obj:=λ i h st b hb=>by
    have e:b=it:=by simpa using hb
    subst e
    obtain ⟨o,e,c,d⟩:=st
    exact ⟨o,e,λ v z=>by rw [d] at z; cases z⟩
  keep:=λ i h h' st k=>st.at λ o e=>k it (by simp) o e
  item:=by
    intro X hP hw hK hc i pins s σ H E I hf st hg
    subst hP hw hK
    obtain ⟨xs,x,hq,hx⟩:=hg
    obtain ⟨its,rv,p,hz⟩:=I.list hq
    obtain ⟨u,hu,ru⟩:=rv.get hx
    obtain ⟨f0,f1,f2,f3,f4,f5⟩:=hf it (by simp)
    refine wpAny_pyNext_list_item st p.isList (x:=u) (by simpa using hu) λ h' st' sb=>?_
    have I1:Inv X pins σ H { s with heap:=h' }:=I.turned (t':=s.toks) (λ b o hb e=>(sb.2 b hb).trans e) f0 f1 f3 f4 f5
    obtain ⟨o,e,c,d⟩:=id st'
    exact ⟨u,rfl,go_of (s:={ s with heap:=h' }) e c d (by decide) ⟨x,H,I1,ru,⟨rfl,λ ys hy=>by rw [I.list_inj hy hq]; exact hx⟩,st',λ b hb=>(hf b hb).1⟩⟩
  done:=by
    intro X hP hw hK hc i pins s σ H E I hf st hg
    subst hP hw hK
    obtain ⟨xs,hq,hx⟩:=hg
    obtain ⟨its,rv,p,hz⟩:=I.list hq
    obtain ⟨f0,f1,f2,f3,f4,f5⟩:=hf it (by simp)
    have hl:=rv.length
    exact wpAny_pyNext_list_end (I.ok.hd hc) st p.isList (by simp; omega) λ h' eb=>⟨rfl,I.turned (t':=s.toks) (λ b o hb e=>eb b o hb e) f0 f1 f3 f4 f5⟩
  self:=λ _ _ _ _ _ st h=>wpAny_pyIter_listiter st h
theorem turn_tuple {P:Program} {w:World} {K:PySem.W.Frag} {tg:Expr} (a it:Addr):Turn P w K tg (Itt K a) [it] it (λ i h=>h.IsTupleIter it a i) where
  mem:=by simp
  obj:=λ i h st b hb=>by
    have e:b=it:=by simpa using hb
    subst e
    obtain ⟨o,e,c,d⟩:=st
    exact ⟨o,e,λ v z=>by rw [d] at z; cases z⟩
  keep:=λ i h h' st k=>st.at λ o e=>k it (by simp) o e
  item:=by
    intro X hP hw hK hc i pins s σ H E I hf st hg
    subst hP hw hK
    obtain ⟨xs,x,hq,hx⟩:=hg
    obtain ⟨its,rv,p,hz⟩:=I.tuple hq
    obtain ⟨u,hu,ru⟩:=rv.get hx
    obtain ⟨f0,f1,f2,f3,f4,f5⟩:=hf it (by simp)
    refine wpAny_pyNext_tuple_item st (show s.heap.IsTuple a its.toArray from p) (x:=u) (by simpa using hu) λ h' st' sb=>?_
    have I1:Inv X pins σ H { s with heap:=h' }:=I.turned (t':=s.toks) (λ b o hb e=>(sb.2 b hb).trans e) f0 f1 f3 f4 f5
    obtain ⟨o,e,c,d⟩:=id st'
    exact ⟨u,rfl,go_of (s:={ s with heap:=h' }) e c d (by decide) ⟨x,H,I1,ru,⟨rfl,λ ys hy=>by rw [I.tuple_inj hy hq]; exact hx⟩,st',λ b hb=>(hf b hb).1⟩⟩
  done:=by
    intro X hP hw hK hc i pins s σ H E I hf st hg
    subst hP hw hK
    obtain ⟨xs,hq,hx⟩:=hg
    obtain ⟨its,rv,p,hz⟩:=I.tuple hq
    obtain ⟨f0,f1,f2,f3,f4,f5⟩:=hf it (by simp)
    have hl:=rv.length
    exact wpAny_pyNext_tuple_end (I.ok.hd hc) st (show s.heap.IsTuple a its.toArray from p) (by simp; omega) λ h' eb=>⟨rfl,I.turned (t':=s.toks) (λ b o hb e=>eb b o hb e) f0 f1 f3 f4 f5⟩
  self:=λ _ _ _ _ _ st h=>wpAny_pyIter_tupleiter st h
theorem turn_range {P:Program} {w:World} {K:PySem.W.Frag} {tg:Expr} (it:Addr) (lo:Int) (n:Nat):Turn P w K tg (Itr lo n) [it] it (λ i h=>IsRangeIter h it (lo + (i:Nat) * 1) ((n:Int) - (i:Nat)) 1) where
  mem:=by simp
  obj:=λ i h st b hb=>by
    have e:b=it:=by simpa using hb
    subst e
    exact ⟨_,st,λ v z=>by
      have z':Data.fields _=Data.cell v:=z
      cases z'⟩
  keep:=λ i h h' st k=>k it (by simp) _ st
  item:=by
    intro X hP hw hK hc i pins s σ H E I hf st hg
    subst hP hw hK
    obtain ⟨f0,f1,f2,f3,f4,f5⟩:=hf it (by simp)
    have W:=Walks.range (prog:=X.prog) (w:=X.w) (I.ok.hd hc) it lo 1 n
    refine W.item i s _ _ hg st λ v h' tk hv st' kk=>?_
    obtain ⟨t,rfl⟩:=hv
    have I1:Inv X pins σ H { s with heap:=h',toks:=tk }:=I.turned (λ b o hb e=>kk b o (by simpa using hb) e) f0 f1 f3 f4 f5
    refine ⟨_,rfl,go_of (s:={ s with heap:=h',toks:=tk }) (n:="range_iterator") st' rfl rfl (by decide) ⟨.int (lo + i),H,I1,⟨t,?_⟩,⟨rfl,rfl⟩,st',λ b hb=>(hf b hb).1⟩⟩
    rw [Int.mul_one]
  done:=by
    intro X hP hw hK hc i pins s σ H E I hf st hg
    subst hP hw hK
    obtain ⟨f0,f1,f2,f3,f4,f5⟩:=hf it (by simp)
    exact wpAny_pyNext_range_end (I.ok.hd hc) st (by have:n<=i:=hg; omega) λ h' eb=>⟨rfl,I.turned (t':=s.toks) (λ b o hb e=>eb b o hb e) f0 f1 f3 f4 f5⟩
  self:=λ _ _ _ _ _ st h=>wpAny_pyIter_rangeiter st h
end L2
namespace L2
open PySem PySem.Spec PyProof.Rows
section
variable {X:Cx} {tg:Expr}
noncomputable def iList (K:PySem.W.Frag) (tl:TE):TI:=λ σ H R=>tl σ H λ x H1=>∃ a,x=.ref a/\(∃ xs,SqL K H1 a xs)/\R (Itl K a) H1
noncomputable def iTup (K:PySem.W.Frag) (tl:TE):TI:=λ σ H R=>tl σ H λ x H1=>∃ a,x=.ref a/\(∃ xs,SqT K H1 a xs)/\R (Itt K a) H1
theorem pi_list {l:Expr} {tl:TE} (hl:PE X l tl):PI X tg l (iList X.K tl):=by
  intro pins s σ H R I h
  refine thn (hl pins s σ H _ I h) λ v s1 ⟨x,H1,I1,r1,q1⟩=>?_
  obtain ⟨a,e,⟨xs,hq⟩,q⟩:=q1
  subst e
  cases r1
  obtain ⟨its,rv,p,hz⟩:=I1.list hq
  refine wpAny_pyIter_list p.isList ?_
  refine ⟨s1.heap.objs.size,[s1.heap.objs.size],_,_,H1,rfl,I1.kept (t':=s1.toks) λ b o e=>Heap.get?_push_of_some _ e,turn_list a _,⟨_,Heap.get?_push_size _ rfl,rfl,rfl⟩,λ b hb=>?_,q⟩
  have e:b=s1.heap.objs.size:=by simpa using hb
  subst e
  exact I1.fpOk (Nat.le_refl _) (I1.hok.fresh (Nat.le_refl _))
theorem pi_tup {l:Expr} {tl:TE} (hl:PE X l tl):PI X tg l (iTup X.K tl):=by
  intro pins s σ H R I h
  refine thn (hl pins s σ H _ I h) λ v s1 ⟨x,H1,I1,r1,q1⟩=>?_
  obtain ⟨a,e,⟨xs,hq⟩,q⟩:=q1
  subst e
  cases r1
  obtain ⟨its,rv,p,hz⟩:=I1.tuple hq
  refine wpAny_pyIter_tuple (show s1.heap.IsTuple a its.toArray from p) ?_
  refine ⟨s1.heap.objs.size,[s1.heap.objs.size],_,_,H1,rfl,I1.kept (t':=s1.toks) λ b o e=>Heap.get?_push_of_some _ e,turn_tuple a _,⟨_,Heap.get?_push_size _ rfl,rfl,rfl⟩,λ b hb=>?_,q⟩
  have e:b=s1.heap.objs.size:=by simpa using hb
  subst e
  exact I1.fpOk (Nat.le_refl _) (I1.hok.fresh (Nat.le_refl _))
theorem range_it {pins:List (Addr×Obj)} {σ:St} {H:Hp} {s:Shared} {R:It->Hp->Prop} {E:Value->Shared->Prop} {lo hi:Int} {t u v:Tok} {tk:Nat} (I:Inv X pins σ H s) (h1:-(2 ^ 62)<=lo) (h2:lo < 2 ^ 62) (h3:-(2 ^ 62)<=hi) (h4:hi < 2 ^ 62)
    (q:R (Itr lo (hi - lo).toNat) H):wpAny (model X.prog X.w) X.A (pyIter (.ref s.heap.objs.size)) (PIE X pins σ tg R) E { s with heap:=s.heap.push { cls:=.type "range",data:=.fields #[.int lo t,.int hi u,.int 1 v] },toks:=tk }:=by
  refine wpAny_pyIter_range (IsRange.new ..) (small_one h1 h2 h3 h4) ?_
  have I1:Inv X pins σ H { s with heap:=s.heap.push { cls:=.type "range",data:=.fields #[.int lo t,.int hi u,.int 1 v] },toks:=tk }:=I.kept λ b o e=>Heap.get?_push_of_some _ e
  refine ⟨(s.heap.push { cls:=.type "range",data:=.fields #[.int lo t,.int hi u,.int 1 v] }).objs.size,[(s.heap.push { cls:=.type "range",data:=.fields #[.int lo t,.int hi u,.int 1 v] }).objs.size],_,_,H,rfl,
    I1.kept (t':=tk) λ b o e=>Heap.get?_push_of_some _ e,turn_range _ lo (hi - lo).toNat,?_,λ b hb=>?_,q⟩
  · have e1:lo + ((0:Nat):Int) * 1=lo:=by simp
    have e2:(((hi - lo).toNat:Nat):Int) - ((0:Nat):Int)=Builtin.Range.rangeSize lo hi 1:=by rw [rangeSize_one]; split <;> omega
    show IsRangeIter _ _ (lo + ((0:Nat):Int) * 1) ((((hi - lo).toNat:Nat):Int) - ((0:Nat):Int)) 1
    rw [e1,e2]
    exact Heap.get?_push_size _ rfl
  · have e:b=(s.heap.push { cls:=.type "range",data:=.fields #[.int lo t,.int hi u,.int 1 v] }).objs.size:=by simpa using hb
    subst e
    exact I1.fpOk (Nat.le_refl _) (I1.hok.fresh (Nat.le_refl _))
noncomputable def iRng1 (ta:TA):TI:=λ σ H R=>ta σ H λ vs H1=>∃ j:Int,vs=[.int j]/\-(2 ^ 62)<=j/\j < 2 ^ 62/\R (Itr 0 j.toNat) H1
theorem pi_range1 {a:Expr} {ta:TA} {p pos:Pos} (hg:Gl X "range") (hm:X.mg "range"=none) (ha:PA X [a] ta) (hs:starEach [a] X.env=[(false,eval a X.env)]:=by rfl):PI X tg (.Call (.Name "range" p) [a] [] pos) (iRng1 ta):=by
  intro pins s σ H R I h
  refine Call_ (ld_blt I hg hm boot_range (PyProof.Rows.callWith_type1 (thn (ha pos pins s σ H _ I h) λ us s1 ⟨vs,H1,I1,r1,q1⟩=>?_) hs rfl))
  obtain ⟨j,e,q1,q2,q⟩:=q1
  subst e
  cases r1 with
  | cons r rr =>
    cases rr
    obtain ⟨t,rfl⟩:=r
    exact call_range_1 (range_it I1 (by omega) (by omega) q1 q2 (by simpa using q))
noncomputable def tFor (wi:TI) (g:TG) (tb:TS):TS:=λ D σ H=>wi σ H λ J H1=>∃ W:Nat->Nat->St->Hp->Prop,(∃ m,W 0 m σ H1)/\∀ i m σ H,W i m σ H ->
  (J.stop i H/\D.nx σ H)∨(J.go i H/\∃ N:St->Hp->Prop,(∀ σ' H',N σ' H'->∃ m',m' < m/\W (i + 1) m' σ' H')/\∀ x H',J.yld i H x H'->g x σ H' λ σ2 H2=>tb { D with nx:=N,ct:=N,bk:=D.nx } σ2 H2)
noncomputable def pinsAt (fp:List Addr) (h:Heap):List (Addr×Obj):=fp.filterMap λ b=>(h.get? b).map λ o=>(b,o)
theorem mem_pinsAt {fp:List Addr} {h:Heap} {b:Addr} {o:Obj} (hb:b∈fp) (e:h.get? b=some o):(b,o)∈pinsAt fp h:=List.mem_filterMap.mpr ⟨b,hb,by rw [e]; rfl⟩
theorem of_pinsAt {fp:List Addr} {h:Heap} {p:Addr×Obj} (hp:p∈pinsAt fp h):p.1∈fp/\h.get? p.1=some p.2:=by
  obtain ⟨b,hb,e⟩:=List.mem_filterMap.mp hp
  cases q:h.get? b with
  | none=>rw [q] at e; cases e
  | some o =>
    rw [q] at e
    have e':(b,o)=p:=Option.some.inj e
    subst e'
    exact ⟨hb,q⟩
theorem Inv.pinned {pins:List (Addr×Obj)} {σ:St} {H:Hp} {s:Shared} {fp:List Addr} (I:Inv X pins σ H s) (hf:∀ b∈fp,FpOk X pins H b) (ho:∀ b∈fp,∃ o,s.heap.get? b=some o/\∀ v,o.data≠.cell v):Inv X (pins++pinsAt fp s.heap) σ H s :=
  I.pins_of λ p hp=>(List.mem_append.mp hp).elim (λ z=>I.pin p (List.mem_append_right _ z)) λ z=>by
    obtain ⟨hb,e⟩:=of_pinsAt z
    obtain ⟨f0,f1,f2,_⟩:=hf p.1 hb
    obtain ⟨o,e',d⟩:=ho p.1 hb
    rw [e] at e'; cases e'
    exact ⟨e,f0,f1,f2,d⟩
theorem Inv.unpinned {pins pl:List (Addr×Obj)} {σ:St} {H:Hp} {s:Shared} (I:Inv X (pins++pl) σ H s):Inv X pins σ H s:=I.pins_of λ p hp=>I.pin p (List.mem_append_right _ (List.mem_append_left _ hp))
theorem ps_for {iter:Expr} {body:List Stmt} {wi:TI} {g:TG} {tb:TS} {pos:Pos} (hp:PassesOwn (model X.prog X.w) X.A X.env X.xe) (hc:X.calm=true) (hi:PI X tg iter wi) (hg:PG X tg g) (hb:PSs X body tb)
    (hs:∀ x,foldedSetIterable iter X.env x=pure x:=by intro _; rfl):PS X (.For tg iter body [] pos) (tFor wi g tb):=by
  intro pins s σ H D I h
  refine wpAny_For (thn (hi pins s σ H _ I h) λ v s1 h1=>thn h1 λ itv s2 h2=>?_) hs
  obtain ⟨it,fp,tn,J,H2,e,I2,T,st2,f2,W,⟨m0,w0⟩,turn⟩:=h2
  subst e
  -- what stays true of the iterator's objects through the loop
  have stat:∀ {H':Hp},(∀ b∈fp,H' b=none)->∀ b∈fp,FpOk X pins H' b:=λ hn b hb=>⟨hn b hb,(f2 b hb).2⟩
  refine codeAny_forLoop_any (λ n s'=>∃ i σ' H',Inv X pins σ' H' s'/\tn i s'.heap/\(∀ b∈fp,H' b=none)/\W i n σ' H') ?_ m0 ⟨0,σ,H2,I2,st2,λ b hb=>(f2 b hb).1,w0⟩
  rintro n s3 ⟨i,σ3,H3,I3,st3,fr3,w3⟩
  rcases turn i n σ3 H3 w3 with ⟨stop,qn⟩ | ⟨go,N,hN,step⟩
  · refine wpAny_passesOwn hp (thn (T.done X rfl rfl rfl hc i pins s3 σ3 H3 X.xe I3 (stat fr3) st3 stop) λ r s4 ⟨hr,I4⟩=>?_)
    subst hr
    exact wpAny_execs_nil ⟨σ3,H3,I4,qn⟩
  · refine wpAny_passesOwn hp (thn (T.item X rfl rfl rfl hc i pins s3 σ3 H3 X.xe I3 (stat fr3) st3 go) λ r s4 ⟨u,hr,h4⟩=>?_)
    subst hr
    refine wpAny_passesOwn hp (thn h4 λ _ s5 ⟨x,H5,I5,r5,y5,st5,fr5⟩=>?_)
    have I5':=I5.pinned (stat fr5) (T.obj _ _ st5)
    refine wpAny_passesOwn hp (thn (hg _ s5 σ3 H5 x u _ I5' r5 (step x H5 y5)) λ _ s6 ⟨σ6,H6,I6,q6⟩=>?_)
    refine wpAny_passesOwn hp (thn (hb _ s6 σ6 H6 _ I6 q6) λ f s7 q7=>?_)
    have again:∀ {σ7:St} {H7:Hp},Inv X (pins++pinsAt fp s5.heap) σ7 H7 s7->N σ7 H7->∃ m,m < n/\∃ i σ' H',Inv X pins σ' H' s7/\tn i s7.heap/\(∀ b∈fp,H' b=none)/\W i m σ' H':=λ {σ7 H7} I7 n7=>by
      obtain ⟨m',hm,w7⟩:=hN σ7 H7 n7
      refine ⟨m',hm,i + 1,σ7,H7,I7.unpinned,T.keep _ _ _ st5 λ b hb o e=>(I7.pin (b,o) (List.mem_append_right _ (List.mem_append_right _ (mem_pinsAt hb e)))).1,λ b hb=>?_,w7⟩
      obtain ⟨o,e,d⟩:=T.obj _ _ st5 b hb
      exact (I7.pin (b,o) (List.mem_append_right _ (List.mem_append_right _ (mem_pinsAt hb e)))).2.1
    cases f with
    | next=>obtain ⟨σ7,H7,I7,n7⟩:=q7; exact again I7 n7
    | cont=>obtain ⟨σ7,H7,I7,n7⟩:=q7; exact again I7 n7
    | brk=>obtain ⟨σ7,H7,I7,q7⟩:=q7; exact ⟨σ7,H7,I7.unpinned,q7⟩
    | ret v=>obtain ⟨x7,σ7,H7,I7,r7,q7⟩:=q7; exact ⟨x7,σ7,H7,I7.unpinned,r7,q7⟩
end
end L2
namespace L2
open PySem PySem.Spec PyProof.Rows
noncomputable abbrev R2:=V->V->Hp->VK->Prop
noncomputable def OpR (X:Cx) (f:Value->Value->Sem Value) (r:R2):Prop :=
  ∀ (pins:List (Addr×Obj)) (s:Shared) (σ:St) (H:Hp) (x y:V) (v u:Value) (Q:VK),Inv X pins σ H s->RelV x v->RelV y u->r x y H Q ->
    wpAny (model X.prog X.w) X.A (f v u) (EP X pins σ Q) X.xe s
noncomputable def UnR (X:Cx) (f:Value->Sem Value) (r:V->Hp->VK->Prop):Prop :=
  ∀ (pins:List (Addr×Obj)) (s:Shared) (σ:St) (H:Hp) (x:V) (v:Value) (Q:VK),Inv X pins σ H s->RelV x v->r x H Q ->
    wpAny (model X.prog X.w) X.A (f v) (EP X pins σ Q) X.xe s
noncomputable def CallR (X:Cx) (f:Value) (r:List V->Hp->VK->Prop):Prop :=
  ∀ (pins:List (Addr×Obj)) (s:Shared) (σ:St) (H:Hp) (xs:List V) (us:List Value) (Q:VK),Inv X pins σ H s->Vals xs us->r xs H Q ->
    wpAny (model X.prog X.w) X.A (call f us) (EP X pins σ Q) X.xe s
noncomputable def TruR (X:Cx) (r:V->Hp->(Bool->Hp->Prop)->Prop):Prop :=
  ∀ (pins:List (Addr×Obj)) (s:Shared) (σ:St) (H:Hp) (x:V) (v:Value) (Q:Bool->Hp->Prop),Inv X pins σ H s->RelV x v->r x H Q ->
    wpAny (model X.prog X.w) X.A (truthy v) (TP X pins σ Q) X.xe s
noncomputable def tOp (r:R2) (ta tb:TE):TE:=λ σ H Q=>ta σ H λ x H1=>tb σ H1 λ y H2=>r x y H2 Q
noncomputable def tUn (r:V->Hp->VK->Prop) (ta:TE):TE:=λ σ H Q=>ta σ H λ x H1=>r x H1 Q
noncomputable def rI (C:Int->Int->Prop) (g:Int->Int->V):R2:=λ x y H Q=>∃ i j,x=.int i/\y=.int j/\C i j/\Q (g i j) H
noncomputable def rI0 (g:Int->Int->V):R2:=λ x y H Q=>∃ i j,x=.int i/\y=.int j/\Q (g i j) H
noncomputable def rU (g:Int->V):V->Hp->VK->Prop:=λ x H Q=>∃ i,x=.int i/\Q (g i) H
section
variable {X:Cx} {a b c:Expr} {ta tb tc:TE} {pos:Pos}
theorem binT (ha:PE X a ta) (hb:PE X b tb) {pins:List (Addr×Obj)} {s:Shared} {σ:St} {H:Hp} {R:V->V->Hp->Prop} (I:Inv X pins σ H s)
    (h:ta σ H λ x H1=>tb σ H1 λ y H2=>R x y H2) {Q:Value->Shared->Prop} {f:Value->Value->Sem Value}
    (hf:∀ v u s2 x y H2,Inv X pins σ H2 s2->RelV x v->RelV y u->R x y H2->wpAny (model X.prog X.w) X.A (f v u) Q X.xe s2) :
    wpAny (model X.prog X.w) X.A (eval a X.env) (λ v s₁=>wpAny (model X.prog X.w) X.A (eval b X.env) (λ u s₂=>wpAny (model X.prog X.w) X.A (f v u) Q X.xe s₂) X.xe s₁) X.xe s:=by
  refine thn (ha pins s σ H _ I h) λ v s1 ⟨x,H1,I1,r1,q1⟩=>?_
  refine thn (hb pins s1 σ H1 _ I1 q1) λ u s2 ⟨y,H2,I2,r2,q2⟩=>?_
  exact hf v u s2 x y H2 I2 r1 r2 q2
theorem pe_op {op:Operator} {r:R2} (ho:OpR X (binaryOp op) r) (ha:PE X a ta) (hb:PE X b tb):PE X (.BinOp a op b pos) (tOp r ta tb):=by
  intro pins s σ H Q I h
  exact wpAny_BinOp (binT ha hb I h λ v u s2 x y H2 I2 rx ry q=>ho pins s2 σ H2 x y v u Q I2 rx ry q)
theorem pe_un {op:UnaryOp} {r:V->Hp->VK->Prop} (ho:UnR X (unaryOp op) r) (ha:PE X a ta):PE X (.UnaryOp op a pos) (tUn r ta):=by
  intro pins s σ H Q I h
  exact UnaryOp_ (thn (ha pins s σ H _ I h) λ v s1 ⟨x,H1,I1,r1,q1⟩=>ho pins s1 σ H1 x v Q I1 r1 q1)
theorem opI {f:Value->Value->Sem Value} {C:Int->Int->Prop} {g:Int->Int->Int}
    (rule:∀ (i j:Int) (t u:Tok) (s:Shared) (Q:Value->Shared->Prop) (E:Value->Shared->Prop),C i j->Q (.int (g i j) s.toks) { s with toks:=s.toks + 1 }->wpAny (model X.prog X.w) X.A (f (.int i t) (.int j u)) Q E s) :
    OpR X f (rI C λ i j=>.int (g i j)):=by
  intro pins s σ H x y v u Q I rx ry h
  obtain ⟨i,j,rfl,rfl,hc,q⟩:=h
  obtain ⟨t,rfl⟩:=rx
  obtain ⟨t',rfl⟩:=ry
  exact rule i j t t' s _ _ hc ⟨.int (g i j),H,I.tok _,⟨_,rfl⟩,q⟩
theorem opI0 {f:Value->Value->Sem Value} {g:Int->Int->Int}
    (rule:∀ (i j:Int) (t u:Tok) (s:Shared) (Q:Value->Shared->Prop) (E:Value->Shared->Prop),Q (.int (g i j) s.toks) { s with toks:=s.toks + 1 }->wpAny (model X.prog X.w) X.A (f (.int i t) (.int j u)) Q E s) :
    OpR X f (rI0 λ i j=>.int (g i j)):=by
  intro pins s σ H x y v u Q I rx ry h
  obtain ⟨i,j,rfl,rfl,q⟩:=h
  obtain ⟨t,rfl⟩:=rx
  obtain ⟨t',rfl⟩:=ry
  exact rule i j t t' s _ _ ⟨.int (g i j),H,I.tok _,⟨_,rfl⟩,q⟩
theorem opB0 {f:Value->Value->Sem Value} {g:Int->Int->Bool}
    (rule:∀ (i j:Int) (t u:Tok) (s:Shared) (Q:Value->Shared->Prop) (E:Value->Shared->Prop),Q (.bool (g i j)) s->wpAny (model X.prog X.w) X.A (f (.int i t) (.int j u)) Q E s) :
    OpR X f (rI0 λ i j=>.bl (g i j)):=by
  intro pins s σ H x y v u Q I rx ry h
  obtain ⟨i,j,rfl,rfl,q⟩:=h
  obtain ⟨t,rfl⟩:=rx
  obtain ⟨t',rfl⟩:=ry
  exact rule i j t t' s _ _ ⟨.bl (g i j),H,I,rfl,q⟩
noncomputable def CMul (i j:Int):Prop:=(-(2 ^ 64) < i/\i < 2 ^ 64)∨(-(2 ^ 64) < j/\j < 2 ^ 64)
theorem CMul.ok {i j:Int} (h:CMul i j):IntMulOk i j:=by
  rcases h with ⟨h1,h2⟩ | ⟨h1,h2⟩
  · exact .of_left (intBits_le_64 h1 h2)
  · exact .of_right (intBits_le_64 h1 h2)
theorem op_add:OpR X (binaryOp .Add) (rI0 λ i j=>.int (i + j)):=opI0 λ _ _ _ _ _ _ _ q=>add_int q
theorem op_sub:OpR X (binaryOp .Sub) (rI0 λ i j=>.int (i - j)):=opI0 λ _ _ _ _ _ _ _ q=>sub_int q
theorem op_mul:OpR X (binaryOp .Mult) (rI CMul λ i j=>.int (i * j)):=opI λ _ _ _ _ _ _ _ hc q=>mul_int q hc.ok
theorem op_mod:OpR X (binaryOp .Mod) (rI (λ _ j=>0 < j) λ i j=>.int (i % j)):=opI λ i j _ _ _ _ _ hc q=>by
  have h1:(0:Int) < j:=hc
  exact mod_int' (by omega) (by rw [Int.fmod_eq_emod_of_nonneg i (by omega)]; exact q)
theorem unI {f:Value->Sem Value} {g:Int->Int}
    (rule:∀ (i:Int) (t:Tok) (s:Shared) (Q:Value->Shared->Prop) (E:Value->Shared->Prop),Q (.int (g i) s.toks) { s with toks:=s.toks + 1 }->wpAny (model X.prog X.w) X.A (f (.int i t)) Q E s) :
    UnR X f (rU λ i=>.int (g i)):=by
  intro pins s σ H x v Q I rx h
  obtain ⟨i,rfl,q⟩:=h
  obtain ⟨t,rfl⟩:=rx
  exact rule i t s _ _ ⟨.int (g i),H,I.tok _,⟨_,rfl⟩,q⟩
theorem un_neg:UnR X (unaryOp .USub) (rU λ i=>.int (-i)):=unI λ _ _ _ _ _ q=>neg_int q
end
section
variable {X:Cx} {a b c:Expr} {ta tb tc:TE} {pos:Pos}
theorem fin_bl {pins:List (Addr×Obj)} {σ:St} {H:Hp} {s:Shared} {Q:VK} {k k':Bool} (I:Inv X pins σ H s) (q:Q (.bl k) H) (e:k=k'):EP X pins σ Q (.bool k') s:=by
  subst e
  exact ⟨.bl k,H,I,rfl,q⟩
theorem op_lt:OpR X (compareOp .Lt) (rI0 λ i j=>.bl (decide (i < j))):=opB0 λ _ _ _ _ _ _ _ q=>lt_int q
theorem op_le:OpR X (compareOp .LtE) (rI0 λ i j=>.bl (decide (i<=j))):=opB0 λ _ _ _ _ _ _ _ q=>le_int q
theorem op_gt:OpR X (compareOp .Gt) (rI0 λ i j=>.bl (decide (j < i))):=opB0 λ _ _ _ _ _ _ _ q=>gt_int q
theorem op_lt_str:OpR X (compareOp .Lt) (λ x y H Q=>∃ i j,x=.str i/\y=.str j/\Q (.bl (decide (i.cps.toList < j.cps.toList))) H):=by
  intro pins s σ H x y v u Q I rx ry h
  obtain ⟨i,j,rfl,rfl,q⟩:=h
  obtain ⟨t,rfl⟩:=rx
  obtain ⟨t',rfl⟩:=ry
  exact lt_str (fin_bl I q rfl)
theorem op_in_str:OpR X (compareOp .In) (λ x y H Q=>∃ i j,x=.str i/\y=.str j/\Q (.bl (!(Builtin.Str.occurrences j i 0 j.length 1).isEmpty)) H):=by
  intro pins s σ H x y v u Q I rx ry h
  obtain ⟨i,j,rfl,rfl,q⟩:=h
  obtain ⟨t,rfl⟩:=rx
  obtain ⟨t',rfl⟩:=ry
  exact in_str (fin_bl I q rfl)
theorem OpR.or {f:Value->Value->Sem Value} {r r':R2} (h:OpR X f r) (h':OpR X f r'):OpR X f (λ x y H Q=>r x y H Q∨r' x y H Q):=by
  intro pins s σ H x y v u Q I rx ry q
  rcases q with q | q
  · exact h pins s σ H x y v u Q I rx ry q
  · exact h' pins s σ H x y v u Q I rx ry q
theorem nomark (b:Expr) {op:CmpOp} (h:op≠.In:=by decide) (h2:op≠.NotIn:=by decide):behindInMarks op b=false:=by
  have e1:(op == CmpOp.In)=false:=by cases op <;> first | rfl | exact absurd rfl h
  have e2:(op == CmpOp.NotIn)=false:=by cases op <;> first | rfl | exact absurd rfl h2
  cases b <;> simp [behindInMarks,e1,e2]
theorem pe_cmpR {op:CmpOp} {r:R2} (ho:OpR X (compareOp op) r) (ha:PE X a ta) (hb:PE X b tb) (hm:behindInMarks op b=false):PE X (.Compare a [op] [b] pos) (tOp r ta tb):=by
  intro pins s σ H Q I h
  exact wpAny_Compare1 (binT ha hb I h λ v u s2 x y H2 I2 rx ry q=>ho pins s2 σ H2 x y v u Q I2 rx ry q) hm
noncomputable def tTest (t:TE):TT:=λ σ H Q=>t σ H λ x H'=>∃ k,x=.bl k/\Q k H'
theorem pt_cmpR {op:CmpOp} {r:R2} (ho:OpR X (compareOp op) r) (ha:PE X a ta) (hb:PE X b tb) (hm:behindInMarks op b=false):PT X (.Compare a [op] [b] pos) (tTest (tOp r ta tb)):=by
  intro pins s σ H Q I h
  refine wpAny_isTrue_Compare1 (thn (ha pins s σ H _ I h) λ v s1 ⟨x,H1,I1,r1,q1⟩=>thn (hb pins s1 σ H1 _ I1 q1) λ u s2 ⟨y,H2,I2,r2,q2⟩ =>
    thn (ho pins s2 σ H2 x y v u _ I2 r1 r2 q2) λ c s3 ⟨z,H3,I3,r3,k,e,q3⟩=>?_) hm
  subst e
  cases r3
  exact wpAny_truthy_bool ⟨H3,I3,q3⟩
noncomputable def tChain (r r':R2) (ta tb tc:TE):TE:=λ σ H Q=>ta σ H λ x H1=>tb σ H1 λ y H2=>r x y H2 λ z H3=>∃ k,z=.bl k /\
  (if k=true then tc σ H3 λ w' H4=>r' y w' H4 Q else Q (.bl false) H3)
theorem pe_chain {op op':CmpOp} {r r':R2} (ho:OpR X (compareOp op) r) (ho':OpR X (compareOp op') r') (ha:PE X a ta) (hb:PE X b tb) (hc:PE X c tc)
    (hm:lastMarks [op,op'] [b,c]=false:=by with_unfolding_all rfl):PE X (.Compare a [op,op'] [b,c] pos) (tChain r r' ta tb tc):=by
  intro pins s σ H Q I h
  refine Compare_chain (thn (ha pins s σ H _ I h) λ v s1 ⟨x,H1,I1,r1,q1⟩=>chain_link (thn (hb pins s1 σ H1 _ I1 q1) λ u s2 ⟨y,H2,I2,r2,q2⟩ =>
    thn (ho pins s2 σ H2 x y v u _ I2 r1 r2 q2) λ d s3 ⟨z,H3,I3,r3,k,e,q3⟩=>?_)) hm
  subst e
  cases r3
  refine wpAny_truthy_bool ?_
  cases k with
  | false=>exact ite_ff ⟨.bl false,H3,I3,rfl,q3⟩
  | true=>exact ite_tt (chain_last (thn (hc pins s3 σ H3 _ I3 q3) λ w' s4 ⟨z',H4,I4,r4,q4⟩=>ho' pins s4 σ H4 y z' u w' Q I4 r2 r4 q4))
noncomputable def TruV (K:PySem.W.Frag) (x:V) (H:Hp) (k:Bool):Prop :=
  match x with
  | .non=>k=false
  | .bl b=>k=b
  | .int i=>k=(i != 0)
  | .str y=>y.length<=sizeLine/\k=((y.length:Int) != 0)
  | .byt y=>y.size<=sizeLine/\k=((y.size:Int) != 0)
  | .ref p=>(∃ xs,SqL K H p xs/\k=!xs.isEmpty)∨(∃ xs,SqT K H p xs/\k=!xs.isEmpty)∨∃ kvs,H p=some (.dK kvs)/\k=!kvs.isEmpty
  | _=>False
theorem isEmpty_kv {κ:Type} {kvs:List (κ×V)} {vs:List (κ×Value)} (r:KV kvs vs):(!vs.isEmpty)=!kvs.isEmpty:=by
  cases r <;> rfl
theorem isEmpty_of {xs:List V} {its:List Value} (r:Vals xs its):(!its.toArray.isEmpty)=!xs.isEmpty:=by
  cases r <;> simp
theorem line63:(sizeLine:Nat) < 2 ^ 63:=by rw [sizeLine_eq]; decide
theorem tru_ok:TruR X (λ x H Q=>∃ k,TruV X.K x H k/\Q k H):=by
  intro pins s σ H x v Q I rx h
  obtain ⟨k,e,q⟩:=h
  have hl:=line63
  have hs:sizeLine=16777216:=sizeLine_eq
  cases x with
  | non =>
    cases rx
    have e':k=false:=e
    subst e'
    exact truthy_none ⟨H,I,q⟩
  | bl b =>
    cases rx
    have e':k=b:=e
    subst e'
    exact wpAny_truthy_bool ⟨H,I,q⟩
  | int i =>
    obtain ⟨t,rfl⟩:=rx
    have e':k=(i != 0):=e
    subst e'
    exact PySem.P.truthy_int ⟨H,I,q⟩
  | str y =>
    obtain ⟨t,rfl⟩:=rx
    obtain ⟨hy,e'⟩:y.length<=sizeLine/\k=((y.length:Int) != 0):=e
    subst e'
    exact PySem.P.truthy_str (by omega) ⟨H,I.tok _,q⟩
  | byt y =>
    obtain ⟨t,rfl⟩:=rx
    obtain ⟨hy,e'⟩:y.size<=sizeLine/\k=((y.size:Int) != 0):=e
    subst e'
    exact PySem.W.truthy_bytes (by omega) ⟨H,I.tok _,q⟩
  | ref p =>
    cases rx
    have e':(∃ xs,SqL X.K H p xs/\k=!xs.isEmpty)∨(∃ xs,SqT X.K H p xs/\k=!xs.isEmpty)∨∃ kvs,H p=some (.dK kvs)/\k=!kvs.isEmpty:=e
    rcases e' with ⟨xs,hx,e'⟩ | ⟨xs,hx,e'⟩ | ⟨kvs,hx,e'⟩
    · subst e'
      obtain ⟨its,r,pl,hz⟩:=I.list hx
      have hlen:=r.length
      exact wpAny_truthy_list pl.isList (by simp only [List.size_toArray]; omega) ⟨H,I.tok _,by rw [isEmpty_of r]; exact q⟩
    · subst e'
      obtain ⟨its,r,pl,hz⟩:=I.tuple hx
      have hlen:=r.length
      exact truthy_tuple pl (by simp only [List.size_toArray]; omega) ⟨H,I.tok _,by rw [isEmpty_of r]; exact q⟩
    · subst e'
      obtain ⟨hz,hS,vs,r,m⟩:kvs.length<=sizeLine/\(p == sysModules)=false/\∃ vs,KV kvs vs/\s.heap.DictOf (mixKind X.prog X.w) p vs:=I.hok p _ hx
      have hlen:kvs.length=vs.length:=Paired.length r
      exact wpAny_truthy_dict hS m (by omega) ⟨H,I.tok _,by rw [isEmpty_kv r]; exact q⟩
  | _=>exact (show False from e).elim
theorem pt_truth (ha:PE X a ta) (he:∀ whole,isTrue a X.env whole=(do let v <- whole; standAt a.pos; holding [v] (truthy v))) :
    PT X a (λ σ H Q=>ta σ H λ x H'=>∃ k,TruV X.K x H' k/\Q k H'):=by
  intro pins s σ H Q I h
  exact isTrue_plain (thn (ha pins s σ H _ I h) λ v s1 ⟨x,H1,I1,r1,q1⟩=>tru_ok pins s1 σ H1 x v Q I1 r1 q1) (he _)
theorem op_add_str:OpR X (binaryOp .Add) (λ x y H Q=>∃ i j,x=.str i/\y=.str j/\i.length + j.length<=sizeLine/\Q (.str (i++j)) H):=by
  intro pins s σ H x y v u Q I rx ry h
  obtain ⟨i,j,rfl,rfl,hz,q⟩:=h
  obtain ⟨t,rfl⟩:=rx
  obtain ⟨t',rfl⟩:=ry
  exact add_str (λ t' tk=>⟨.str (i++j),H,I.tok _,⟨_,rfl⟩,q⟩) hz
theorem vals1 {x:V} {us:List Value} (r:Vals [x] us):∃ u,us=[u]/\RelV x u:=by
  cases r with
  | cons r1 r2=>cases r2; exact ⟨_,rfl,r1⟩
theorem vals2 {x y:V} {us:List Value} (r:Vals [x,y] us):∃ u w',us=[u,w']/\RelV x u/\RelV y w':=by
  cases r with
  | cons r1 r2 =>
    cases r2 with
    | cons r3 r4=>cases r4; exact ⟨_,_,rfl,r1,r3⟩
noncomputable def LenV (K:PySem.W.Frag) (x:V) (H:Hp) (n:Nat):Prop :=
  match x with
  | .str y=>y.length<=sizeLine/\n=y.length
  | .byt y=>y.size<=sizeLine/\n=y.size
  | .ref p=>(∃ xs,SqL K H p xs/\n=xs.length)∨∃ xs,SqT K H p xs/\n=xs.length
  | _=>False
theorem call_len:CallR X (.builtin "len") (λ xs H Q=>∃ x n,xs=[x]/\LenV X.K x H n/\Q (.int n) H):=by
  intro pins s σ H xs us Q I r h
  obtain ⟨x,n,rfl,e,q⟩:=h
  obtain ⟨u,rfl,rx⟩:=vals1 r
  have hl:=line63
  have hs:sizeLine=16777216:=sizeLine_eq
  cases x with
  | str y =>
    obtain ⟨t,rfl⟩:=rx
    obtain ⟨hy,e'⟩:y.length<=sizeLine/\n=y.length:=e
    subst e'
    exact len_str (by omega) ⟨.int _,H,I.tok _,⟨_,rfl⟩,q⟩
  | byt y =>
    obtain ⟨t,rfl⟩:=rx
    obtain ⟨hy,e'⟩:y.size<=sizeLine/\n=y.size:=e
    subst e'
    exact PySem.W.len_bytes (by omega) ⟨.int _,H,I.tok _,⟨_,rfl⟩,q⟩
  | ref p =>
    cases rx
    have e':(∃ xs,SqL X.K H p xs/\n=xs.length)∨∃ xs,SqT X.K H p xs/\n=xs.length:=e
    rcases e' with ⟨xs,hx,e'⟩ | ⟨xs,hx,e'⟩
    · subst e'
      obtain ⟨its,r',pl,hz⟩:=I.list hx
      have hlen:=r'.length
      exact Calls.call_len_list pl.isList (by simp only [List.size_toArray]; omega) ⟨.int xs.length,H,I.tok _,⟨_,by simp only [List.size_toArray]; rw [hlen]⟩,q⟩
    · subst e'
      obtain ⟨its,r',pl,hz⟩:=I.tuple hx
      have hlen:=r'.length
      exact len_tuple pl (by simp only [List.size_toArray]; omega) ⟨.int xs.length,H,I.tok _,⟨_,by simp only [List.size_toArray]; rw [hlen]⟩,q⟩
  | _=>exact (show False from e).elim
end
end L2
namespace L2
open PySem PySem.Spec PyProof.Rows
section
variable {prog:Program} {w:World} {A:Around} {E:Value->Shared->Prop} {s:Shared} {K:PySem.W.Frag} {x dx C f:Addr} {mA:Str->Option Value} {name:Str} {v:Value}
end
section
variable {P:Program} {w:World} {H H':Hp} {h h':Heap} {a C dx:Addr} {fs fs':List (Str×V)}
end
section
variable {X:Cx} {pins:List (Addr×Obj)} {σ:St} {H:Hp} {s:Shared} {a C dx:Addr} {fs:List (Str×V)} {f:Str} {v:V} {A:Around} {E:Value->Shared->Prop}
end
section
variable {X:Cx} {o e value:Expr} {f:Str} {pos pos' tpos:Pos} {ta tv:TE}
end
section
variable {X:Cx} {pins:List (Addr×Obj)} {σ:St} {H:Hp} {s:Shared} {A:Around} {E:Value->Shared->Prop} {Q:Value->Shared->Prop} {c:Value} {b:Bool}
end
end L2
namespace L2
open PySem PySem.Spec PyProof.Rows
structure Room (k:Nat) (A:Around):Prop where
  hd:A.handled=none
  dp:A.depth + 3 * k + 5 < recursionLimit
  un:A.units + 16 * k + 200 < cLine
theorem Room.mono {j k:Nat} {A:Around} (r:Room k A) (h:j<=k):Room j A:=⟨r.hd,by have:=r.dp; omega,by have:=r.un; omega⟩
theorem Room.deeper {k:Nat} {A:Around} (r:Room (k + 1) A) (env:Env):Room k (A.deeper env) :=
  ⟨r.hd,by have:=r.dp; show A.depth + 1 + 3 * k + 5 < _; omega,by have:=r.un; show A.units + 3 + 16 * k + 200 < _; omega⟩
theorem Room.depth {k:Nat} {A:Around} (r:Room k A):A.depth < recursionLimit:=by have:=r.dp; omega
noncomputable def tNil:TA:=λ _ H Q=>Q [] H
noncomputable def tCons (ta:TE) (tr:TA):TA:=λ σ H Q=>ta σ H λ x H1=>tr σ H1 λ xs H2=>Q (x::xs) H2
section
variable {X:Cx} {e:Expr} {es:List Expr} {te:TE} {t:TA} {pos:Pos}
theorem pa_nil:PA X [] tNil:=λ _ _ _ _ H Q I h=>Calls.spliced_nil ⟨[],H,I,.nil,h⟩
theorem pa_cons (ha:PE X e te) (hr:PA X es t) (hs:starEach (e::es) X.env=(false,eval e X.env)::starEach es X.env:=by rfl):PA X (e::es) (tCons te t):=by
  intro pos pins s σ H Q I h
  rw [hs]
  show wpAny _ _ (spliced ((false,eval e X.env)::backTo pos (starEach es X.env))) _ _ s
  refine Calls.spliced_cons (thn (ha pins s σ H _ I h) λ u s1 ⟨x,H1,I1,r1,q1⟩=>?_)
  exact thn (hr pos pins s1 σ H1 _ I1 q1) λ us s2 ⟨xs,H2,I2,r2,q2⟩=>⟨x::xs,H2,I2,.cons r1 r2,q2⟩
noncomputable def tTup (t:TA):TE:=λ σ H Q=>t σ H λ xs H1=>xs.length<=sizeLine/\∀ p,H1 p=none->Q (.ref p) (upd H1 p (.tup xs))
noncomputable def tLst (t:TA):TE:=λ σ H Q=>t σ H λ xs H1=>xs.length<=sizeLine/\∀ p,H1 p=none->Q (.ref p) (upd H1 p (.lst xs))
theorem pe_tup {x1} (h:PA X es t):PE X (.Tuple es x1 pos) (tTup t):=by
  intro pins s σ H Q I hq
  refine wpAny_Tuple_spliced (thn (h pos pins s σ H _ I hq) λ us s1 ⟨xs,H1,I1,r,z,q⟩=>⟨by rw [<- r.length]; exact z,?_⟩)
  have hf:H1 s1.heap.objs.size=none:=I1.hok.fresh (Nat.le_refl _)
  refine ⟨.ref s1.heap.objs.size,upd H1 s1.heap.objs.size (.tup xs),I1.laid (t':=s1.toks) (λ b u e=>Heap.get?_push_of_some _ e) (Nat.le_refl _) ?_,rfl,q _ hf⟩
  exact ⟨z,us,r,⟨_,Heap.get?_push_size _ rfl,rfl,_,rfl⟩⟩
theorem pe_lst (h:PA X es t):PE X (.List es pos) (tLst t):=by
  intro pins s σ H Q I hq
  refine wpAny_List_spliced (thn (h pos pins s σ H _ I hq) λ us s1 ⟨xs,H1,I1,r,z,q⟩=>⟨by rw [<- r.length]; exact z,?_⟩)
  have hf:H1 s1.heap.objs.size=none:=I1.hok.fresh (Nat.le_refl _)
  refine ⟨.ref s1.heap.objs.size,upd H1 s1.heap.objs.size (.lst xs),I1.laid (t':=s1.toks) (λ b u e=>Heap.get?_push_of_some _ e) (Nat.le_refl _) ?_,rfl,q _ hf⟩
  exact ⟨z,us,0,r,Heap.get?_push_size _ rfl⟩
end
noncomputable abbrev Sp:=List V->Hp->VK->XK->Prop
noncomputable abbrev CXT:=List Env->Hp->Shared->XK->Value->Shared->Prop
structure Env0 (P:Program) (w:World) (K:PySem.W.Frag) (mg:Str->Option Value) (base:Heap) (A:Around) (outer:List Env) (s:Shared) (H:Hp):Prop where
  frames:A.frames=some outer
  mod:Mod K mg base
  bs:∀ b o,base.get? b=some o->s.heap.get? b=some o/\H b=none
  bsz:base.objs.size<=s.heap.objs.size
  funs:s.heap.FunFrames base outer
  frf:∀ b∈frs outer,H b=none
  hok:HOk P w H s.heap
  bare:AllBare s.gens
noncomputable def CE (outer:List Env) (P:Program) (w:World) (H:Hp) (s:Shared) (Q:VK) (u:Value) (s':Shared):Prop :=
  ∃ v H',s'.os=s.os/\AllBare s'.gens/\Un (frs outer) [] H H' s.heap s'.heap/\HOk P w H' s'.heap/\RelV v u/\Q v H'
noncomputable def CR (CX:CXT) (outer:List Env) (P:Program) (w:World) (H:Hp) (s:Shared) (Q:VK) (E:XK) (r:Result) (s':Shared):Prop :=
  match r with
  | .ok (.ret u)=>CE outer P w H s Q u s'
  | .ok _=>False
  | .error e=>CX outer H s E e s'
structure FnOk (P:Program) (w:World) (K:PySem.W.Frag) (mg:Str->Option Value) (base:Heap) (CX:CXT) (k:Nat) (f:Addr) (fd:FuncData) (ps:List Str) (sp:Sp):Prop where
  len:∀ vs H Q E,sp vs H Q E->vs.length=ps.length
  run:∀ (A:Around) (outer:List Env) (s:Shared) (H:Hp) (args:Args) (us:List Value) (vs:List V) (Q:VK) (E:XK),Room k A->Env0 P w K mg base A outer s H->BindsTo s fd args (ps.zip us)->Vals vs us->sp vs H Q E ->
    codeAny (model P w) A (.call (.ref f) args) (CR CX outer P w H s Q E) s
theorem FnOk.mono {P:Program} {w:World} {K:PySem.W.Frag} {mg:Str->Option Value} {base:Heap} {CX:CXT} {j k:Nat} {f:Addr} {fd:FuncData} {ps:List Str} {sp:Sp} (F:FnOk P w K mg base CX j f fd ps sp) (h:j<=k) :
    FnOk P w K mg base CX k f fd ps sp:=⟨F.len,λ A outer s H args us vs Q E hr=>F.run A outer s H args us vs Q E (hr.mono h)⟩
theorem FnOk.imp {P:Program} {w:World} {K:PySem.W.Frag} {mg:Str->Option Value} {base:Heap} {CX:CXT} {k:Nat} {f:Addr} {fd:FuncData} {ps:List Str} {sp sp':Sp} (F:FnOk P w K mg base CX k f fd ps sp)
    (h:∀ vs H Q E,sp' vs H Q E->sp vs H Q E):FnOk P w K mg base CX k f fd ps sp' :=
  ⟨λ vs H Q E q=>F.len vs H Q E (h _ _ _ _ q),λ A outer s H args us vs Q E hr he hb hv hs=>F.run A outer s H args us vs Q E hr he hb hv (h _ _ _ _ hs)⟩
section
variable {X:Cx} {pins:List (Addr×Obj)} {σ:St} {H:Hp} {s s':Shared}
theorem Inv.env0 (I:Inv X pins σ H s):Env0 X.prog X.w X.K X.mg X.base X.A X.stack s H :=
  ⟨I.ok.frames,I.ok.mod,I.bs,Nat.le_trans I.ok.bsz I.sz,I.stack,I.stkFree,I.hok,I.bare⟩
theorem Inv.after {Q:VK} {u:Value} (I:Inv X pins σ H s) (h:CE X.stack X.prog X.w H s Q u s'):EP X pins σ Q u s':=by
  obtain ⟨v,H',os,bare,un,hok,r,q⟩:=h
  obtain ⟨hh,g,d,t,os'⟩:=s'
  obtain rfl:os'=s.os:=os
  exact ⟨v,H',I.call (h':=hh) (g':=g) (d':=d) (t':=t) (ch:=[]) un hok bare (λ b z=>absurd z (by simp)),r,q⟩
end
noncomputable def Binds (K:PySem.W.Frag) (fd:FuncData) (ps:List Str) (ds:List Value):Prop :=
  ∀ (s:Shared) (us:List Value),K.In s.heap->(us++ds).length=ps.length->BindsTo s fd ⟨us,[]⟩ (ps.zip (us++ds))
theorem Binds.all {K:PySem.W.Frag} {fd:FuncData} {ps:List Str} (h:∀ us:List Value,us.length=ps.length->bindArgs fd ⟨us,[]⟩=pure (ps.zip us)):Binds K fd ps []:=λ s us _ hl=>by
  rw [List.append_nil] at hl ⊢
  exact .of_eq (h us hl)
section
variable {X:Cx} {CX:CXT} {k:Nat} {f C:Addr} {fd:FuncData} {ps:List Str} {sp:Sp} {dvs:List V} {ds:List Value} {E:XK} {x m:Str} {p pos apos:Pos} {e o:Expr} {es:List Expr} {ta:TE} {t:TA}
end
section
variable {X:Cx} {CX:CXT} {k:Nat} {f C:Addr} {fd:FuncData} {ps ks:List Str} {sp:Sp} {E:XK} {x m:Str} {p pos apos kpos:Pos} {e o:Expr} {es:List Expr} {kws:List Keyword} {te ta:TE} {t tk:TA} {nm:Option Str}
variable {g:List Value->List Value->List Value} {gV:List V->List V->List V}
end
structure FnScope (N P:List Str) (sc:Scope):Prop where
  kind:sc.kind=.function
  co:sc.isCoroutine=false
  gen:sc.isGenerator=false
  nd:N.Nodup
  pre:N.take P.length=P
  par:∀ x∈P,sc.names.lookup x=some .local∨sc.names.lookup x=some .cell
  nofree:∀ y∈sc.names,y.2≠.free
theorem bindL_out {kindOf:Str->Option NameKind} {x:Str}:∀ {binds:List (Str×Value)} {m:Str->Option Value},(∀ v,(x,v)∉binds)->bindL kindOf binds m x=m x
  | [],_,_=>rfl
  | (n,v)::r,m,h=>by
    unfold bindL
    rw [bindL_out λ w hw=>h w (List.mem_cons_of_mem _ hw)]
    split
    · have:x≠n:=by rintro rfl; exact h v List.mem_cons_self
      simp [this]
    · rfl
theorem bindC_out {kindOf:Str->Option NameKind} {x:Str}:∀ {binds:List (Str×Value)} {m:Str->Option Value},(∀ v,(x,v)∉binds)->bindC kindOf binds m x=m x
  | [],_,_=>rfl
  | (n,v)::r,m,h=>by
    unfold bindC
    rw [bindC_out λ w hw=>h w (List.mem_cons_of_mem _ hw)]
    split
    · rfl
    · have:x≠n:=by rintro rfl; exact h v List.mem_cons_self
      simp [this]
theorem bindL_get {kindOf:Str->Option NameKind} {x:Str} {v:Value}:∀ {P:List Str} {vs:List Value} {i:Nat} {m:Str->Option Value},P.Nodup->P[i]?=some x->vs[i]?=some v->kindOf x=some .local ->
    bindL kindOf (P.zip vs) m x=some v
  | [],_,_,_,_,h,_,_=>by simp at h
  | _::_,[],_,_,_,_,h,_=>by simp at h
  | p::P,w::vs,0,m,nd,h1,h2,hk=>by
    simp at h1 h2; subst h1; subst h2
    show bindL kindOf ((p,w)::P.zip vs) m p=_
    unfold bindL
    rw [bindL_out λ v hv=>(List.nodup_cons.mp nd).1 (List.of_mem_zip hv).1,if_pos hk]
    simp
  | p::P,w::vs,i + 1,m,nd,h1,h2,hk=>by
    show bindL kindOf ((p,w)::P.zip vs) m x=_
    unfold bindL
    exact bindL_get (i:=i) (List.nodup_cons.mp nd).2 (by simpa using h1) (by simpa using h2) hk
theorem bindC_get {kindOf:Str->Option NameKind} {x:Str} {v:Value}:∀ {P:List Str} {vs:List Value} {i:Nat} {m:Str->Option Value},P.Nodup->P[i]?=some x->vs[i]?=some v->kindOf x≠some .local ->
    bindC kindOf (P.zip vs) m x=some v
  | [],_,_,_,_,h,_,_=>by simp at h
  | _::_,[],_,_,_,_,h,_=>by simp at h
  | p::P,w::vs,0,m,nd,h1,h2,hk=>by
    simp at h1 h2; subst h1; subst h2
    show bindC kindOf ((p,w)::P.zip vs) m p=_
    unfold bindC
    rw [bindC_out λ v hv=>(List.nodup_cons.mp nd).1 (List.of_mem_zip hv).1,if_neg hk]
    simp
  | p::P,w::vs,i + 1,m,nd,h1,h2,hk=>by
    show bindC kindOf ((p,w)::P.zip vs) m x=_
    unfold bindC
    exact bindC_get (i:=i) (List.nodup_cons.mp nd).2 (by simpa using h1) (by simpa using h2) hk
noncomputable def start (N:List Str) (vs:List V):St:=vs.map some++List.replicate (N.length - vs.length) none
noncomputable def cxOf (CX:CXT) (P:Program) (w:World) (K:PySem.W.Frag) (mg:Str->Option Value) (base:Heap) (N:List Str) (qual:Str) (scope:Scope) (f:Addr) (cd:Value) (A:Around) (outer:List Env) (s:Shared) (H:Hp) (E:XK):Cx where
  prog:=P
  w:=w
  K:=K
  mg:=mg
  base:=base
  A:=A.deeper (envOfC qual scope s.heap.objs.size f cd)
  N:=N
  s₀:=s
  H₀:=H
  env:=envOfC qual scope s.heap.objs.size f cd
  outer:=outer
  stack:=envOfC qual scope s.heap.objs.size f cd::outer
  ex:=[]
  calm:=true
  fn:=λ _=>true
  pn:=[]
  xe:=λ e s'=>wpAny (model P w) (A.deeper (envOfC qual scope s.heap.objs.size f cd)) (leaving (envOfC qual scope s.heap.objs.size f cd) e) (λ _ s''=>CX outer H s E e s'') (λ e' s''=>CX outer H s E e' s'') s'
theorem cell_has {sc:Scope} {n:Nat} {x:Str} (h:sc.names.lookup x=some .cell):∃ c,(cellsFrom n sc.names []).lookup x=some c:=by
  have q:=PySem.W.cellsFrom_some sc.names n [] (.inl h)
  exact Option.isSome_iff_exists.mp q
theorem inv_start {CX:CXT} {P:Program} {w:World} {K:PySem.W.Frag} {mg:Str->Option Value} {base:Heap} {N ps:List Str} {qual:Str} {scope:Scope} {f:Addr} {cd:Value} {A:Around} {outer:List Env} {s s1:Shared} {H:Hp} {E:XK} {us:List Value} {vs:List V}
    (S:FnScope N ps scope) (hd:A.handled=none) (e0:Env0 P w K mg base A outer s H) (hl:vs.length=ps.length) (r:Vals vs us)
    (x:InCallC s s.heap.objs.size (bindL (envOfC qual scope s.heap.objs.size f cd).kindOf (ps.zip us) λ _=>none) (cellsFrom (s.heap.objs.size + 1) scope.names []) (bindC (envOfC qual scope s.heap.objs.size f cd).kindOf (ps.zip us) λ _=>none) s1) :
    Inv (cxOf CX P w K mg base N qual scope f cd A outer s H E) [] (start N vs) H s1:=by
  have hpl:ps.length<=N.length:=by have:=congrArg List.length S.pre; rw [List.length_take] at this; omega
  obtain ⟨h1,tk,rfl,hk⟩:=x.done
  have noA:∀ b:Addr,b∉(cxOf CX P w K mg base N qual scope f cd A outer s H E).ex:=λ b z=>absurd (show b∈([]:List Addr) from z) (by simp)
  refine ⟨⟨e0.mod,S.kind,rfl,rfl,Nat.le_refl _,λ y z c h1 h2=>?_,λ y hy=>?_,λ y c _ h=>?_,λ _=>hd,Around.frames_deeper e0.frames,.inr ⟨rfl,rfl⟩,λ b z=>absurd z (noA b),e0.bs,e0.bsz,λ b _ _=>noA b,λ b z=>absurd z (noA b),e0.funs,e0.frf⟩,
    rfl,e0.bare,Un.kept hk,⟨_,x.toInCall.ns,λ i y v h1 h2 h3=>?_⟩,λ y c h=>⟨_,x.cell y c h⟩,e0.hok.fresh (Nat.le_refl _),λ y c h=>?_,λ p hp=>absurd (show p∈([]:List (Addr×Obj)) from hp) (by simp),e0.hok.kept hk,?_⟩
  · exact name_of_addr x.apart (PySem.mem_of_lookup h1) (PySem.mem_of_lookup h2)
  · have hy:scope.names.lookup y=some .cell∨scope.names.lookup y=some .free:=hy
    rcases hy with hy | hy
    · exact cell_has hy
    · exact absurd rfl (S.nofree _ (PySem.mem_of_lookup hy))
  · exact Nat.le_of_lt (x.above y c (PySem.mem_of_lookup h))
  · have hi:i < vs.length:=by
      unfold start at h2
      by_cases hi:i < vs.length
      · exact hi
      · rw [List.getElem?_append_right (by simpa using hi)] at h2
        rw [List.getElem?_replicate] at h2
        split at h2 <;> cases h2
    have ha:vs[i]?=some v:=by
      unfold start at h2
      rw [List.getElem?_append_left (by simpa using hi),List.getElem?_map] at h2
      cases e:vs[i]? with
      | none=>rw [e] at h2; cases h2
      | some a=>rw [e] at h2; cases h2; rfl
    obtain ⟨u,hu,rv⟩:=r.get ha
    have hp:ps[i]?=some y:=by
      rw [<- S.pre,List.getElem?_take_of_lt (by omega)]; exact h1
    have ndP:ps.Nodup:=by rw [<- S.pre]; exact S.nd.sublist (List.take_sublist _ _)
    refine ⟨u,rv,?_⟩
    rcases S.par y (List.mem_of_getElem? hp) with k | k
    · exact .inl ⟨k,bindL_get ndP hp hu k⟩
    · obtain ⟨c,e⟩:=cell_has (n:=s.heap.objs.size + 1) k
      refine .inr ⟨.inl k,c,e,?_⟩
      have q:=x.cell y c e
      rw [bindC_get ndP hp hu (by show scope.names.lookup y≠_; rw [k]; decide)] at q
      exact q
  · exact e0.hok.fresh (Nat.le_of_lt (x.above y c (PySem.mem_of_lookup h)))
  · unfold start
    show _=N.length
    rw [List.length_append,List.length_map,List.length_replicate]
    omega
theorem fn_of {CX:CXT} {P:Program} {w:World} {K:PySem.W.Frag} {mg:Str->Option Value} {base:Heap} {k:Nat} {f:Addr} {name qual:Str} {params:Arguments} {body:List Stmt} {scope:Scope} {dV kV doc pm cdv ct oc:Value} {an od:Option Addr}
    {osl:Array (Option Value)} {N ps:List Str} {sp:Sp} (lk:K.lookup f=some ⟨oc,od,.func (PySem.W.fnOf name qual params body scope dV kV doc pm an cdv ct),osl⟩) (hcd:PySem.W.codeIn K cdv qual=true) (S:FnScope N ps scope)
    (len:∀ vs H Q E,sp vs H Q E->vs.length=ps.length)
    (hbody:∀ (A:Around) (outer:List Env) (s:Shared) (H:Hp) (vs:List V) (Q:VK) (E:XK),Room k (A.deeper (envOfC qual scope s.heap.objs.size f cdv))->sp vs H Q E ->
      ∃ t,PSs (cxOf CX P w K mg base N qual scope f cdv A outer s H E) body t/\t { nx:=λ _ H'=>Q .non H',rt:=Q } (start N vs) H) :
    FnOk P w K mg base CX (k + 1) f (PySem.W.fnOf name qual params body scope dV kV doc pm an cdv ct) ps sp:=by
  refine ⟨len,λ A outer s H args us vs Q E hr e0 hb r hsp=>?_⟩
  have hl:=len _ _ _ _ hsp
  have KX:K.In s.heap:=e0.mod.kin.keeps λ b o e=>(e0.bs b o e).1
  have lim:s.heap.NoLimit:=e0.mod.nolimit.keeps λ b o e=>(e0.bs b o e).1
  have hkind:∀ y∈ps.zip us,scope.names.lookup y.1=some .local∨(scope.names.lookup y.1=some .cell/\((cellsFrom (s.heap.objs.size + 1) scope.names []).lookup y.1).isSome=true):=λ ⟨n,v⟩ hy=>by
    rcases S.par n (List.of_mem_zip hy).1 with q | q
    · exact .inl q
    · exact .inr ⟨q,PySem.W.cellsFrom_some _ _ _ (.inl q)⟩
  refine codeAny_call_function hr.depth (KX _ _ lk) rfl S.co S.gen rfl (PySem.W.codeRec_of KX hcd) (hb _ _ _ _ ?_)
  refine wpAny_newFunctionEnv_cells S.kind hkind λ env he s1 x=>?_
  subst he
  refine ⟨lim.keeps x.toInCall.keep,codeAny_func ?_⟩
  obtain ⟨t,ht,hq⟩:=hbody A outer s H vs Q E (hr.deeper _) hsp
  have I:Inv (cxOf CX P w K mg base N qual scope f cdv A outer s H E) [] (start N vs) H s1:=inv_start S hr.hd e0 hl r x
  refine wpAny_mono (ht [] s1 (start N vs) H _ I hq) (λ fl s' hs=>?_) λ e s' hs=>hs
  have fin:∀ {σ':St} {H':Hp} {v:V} {u:Value},Inv (cxOf CX P w K mg base N qual scope f cdv A outer s H E) [] σ' H' s'->RelV v u->Q v H'->CE outer P w H s Q u s' :=
    λ {σ' H' v u} J rv q=>⟨v,H',J.os,J.bare,J.base,J.hok,rv,q⟩
  cases fl with
  | ret u =>
    obtain ⟨v,σ',H',J,rv,q⟩:=hs
    exact fin J rv q
  | next =>
    obtain ⟨σ',H',J,q⟩:=hs
    exact fin (v:=V.non) (u:=Value.none) J rfl q
  | brk =>
    obtain ⟨_,_,_,q⟩:=hs
    exact False.elim q
  | cont =>
    obtain ⟨_,_,_,q⟩:=hs
    exact False.elim q
end L2
namespace L2
open PySem PySem.Spec PyProof.Rows
section
variable {X:Cx} {x:Str} {p pos:Pos} {e:Expr} {es:List Expr} {t:TA} {id T:String} {r:List V->Hp->VK->Prop}
noncomputable def tCB (r:List V->Hp->VK->Prop) (t:TA):TE:=λ σ H Q=>t σ H λ vs H1=>r vs H1 Q
theorem pe_callB (hc:CallR X (.builtin id) r) (hg:Gl X x) (hm:X.mg x=none) (hv:bootBuiltins x=some (.builtin id)) (ha:PA X (e::es) t) (hn:x≠"__name__":=by decide) (hdb:(x == ("__debug__":Str))=false:=by decide)
    (he:starEach (e::es) X.env=(false,eval e X.env)::starEach es X.env:=by rfl) (hpl:(backTo pos (starEach es X.env)).any (·.1)=false:=by rfl):PE X (.Call (.Name x p) (e::es) [] pos) (tCB r t):=by
  intro pins s σ H Q I h
  refine wpAny_Call_Name_kw (ld_blt I hg hm hv ?_ hn hdb)
  exact PyProof.Rows.callWith_builtin1 (thn (ha pos pins s σ H _ I h) λ us s1 ⟨vs,H1,I1,r1,q1⟩=>hc pins s1 σ H1 vs us Q I1 r1 q1) he hpl
theorem pe_callTy (hc:CallR X (.type T) r) (hg:Gl X x) (hm:X.mg x=none) (hv:bootBuiltins x=some (.type T)) (ha:PA X (e::es) t) (hn:x≠"__name__":=by decide) (hdb:(x == ("__debug__":Str))=false:=by decide)
    (he:starEach (e::es) X.env=(false,eval e X.env)::starEach es X.env:=by rfl) (hpl:(backTo pos (starEach es X.env)).any (·.1)=false:=by rfl):PE X (.Call (.Name x p) (e::es) [] pos) (tCB r t):=by
  intro pins s σ H Q I h
  refine wpAny_Call_Name_kw (ld_blt I hg hm hv ?_ hn hdb)
  exact PyProof.Rows.callWith_type1 (thn (ha pos pins s σ H _ I h) λ us s1 ⟨vs,H1,I1,r1,q1⟩=>hc pins s1 σ H1 vs us Q I1 r1 q1) he hpl
end
end L2
namespace HT
open PySem PyProof.Rows
section
open PySem.SeqAt
open PySem.AutoSeq1 (wpAny_loadPart')
open PySem.MeetsSeq PySem.MeetsSeq2 PySem.MeetsSeq3
end
section
variable {prog:Program} {w:World} {A:Around} {E:Value->Shared->Prop} {s:Shared}
theorem cat_tup {t b:Addr} {vs ws:List Value} {Q:Value->Shared->Prop} (ht:IsTup s.heap t vs.toArray) (hb:IsTup s.heap b ws.toArray) (hv:vs≠[])
    (h1:ws=[]->Q (.ref t) s) (h2:ws≠[]->Q (.ref s.heap.objs.size) { s with heap:=s.heap.push { cls:=.type "tuple",data:=.seq (vs++ws).toArray } })
    (hsz:vs.length + ws.length<=sizeLine):wpAny (model prog w) A (binaryOp .Add (.ref t) (.ref b)) Q E s:=by
  obtain ⟨⟨cls,dd,data,sl⟩,ho,hc,n,hd⟩:=id ht
  obtain ⟨⟨cls2,dd2,data2,sl2⟩,ho2,hc2,n2,hd2⟩:=id hb
  simp only at hc hd hc2 hd2
  subst hc hd hc2 hd2
  have e:vs.toArray++ws.toArray=(vs++ws).toArray:=by simp
  by_cases hw:ws=[]
  · exact concat_meets ⟨_,ho,rfl⟩ ⟨_,ho2,rfl⟩ noFill_tuple_add seq_tuple_add PySem.F.slot_tuple_add PySem.F.entry_tuple_add (PySem.F.args_tuple_add_2 _ _)
      (tuple_addW1 t b vs.toArray ws.toArray n n2 dd dd2 sl sl2 (by simpa using hv) (by simp [hw])) ⟨ho,ho2,h1 hw⟩
  · refine concat_meets ⟨_,ho,rfl⟩ ⟨_,ho2,rfl⟩ noFill_tuple_add seq_tuple_add PySem.F.slot_tuple_add PySem.F.entry_tuple_add (PySem.F.args_tuple_add_2 _ _)
      (tuple_addW2 t b vs.toArray ws.toArray n n2 dd dd2 sl sl2 (by simpa using hv) (by simpa using hw) (by rw [List.size_toArray,List.size_toArray]; exact hsz)) ⟨ho,ho2,?_⟩
    rw [e]
    exact h2 hw
noncomputable def sIx (n d:Nat):Option Int->Nat
  | none=>d
  | some v=>if v < 0 then (v + (n:Int)).toNat else min v.toNat n
theorem sIx_le (n d:Nat) (hd:d<=n) (o:Option Int):sIx n d o<=n:=by
  cases o with
  | none=>exact hd
  | some v =>
    show (if v < 0 then (v + (n:Int)).toNat else min v.toNat n)<=n
    by_cases hv:v < 0
    · rw [if_pos hv]; omega
    · rw [if_neg hv]; exact Nat.min_le_right _ _
theorem clip_eq (v:Int) (n d:Nat):(if v < 0 then max (v + (n:Int)) 0 else min v (n:Int))=((sIx n d (some v):Nat):Int):=by
  show (if v < 0 then max (v + (n:Int)) 0 else min v (n:Int))=(((if v < 0 then (v + (n:Int)).toNat else min v.toNat n):Nat):Int)
  by_cases hv:v < 0
  · simp only [if_pos hv]; omega
  · simp only [if_neg hv]; omega
theorem adjust_gen (lo hi:Option Int) (n:Nat):Builtin.Slice.sliceAdjust lo hi 1 (n:Int)=(((sIx n 0 lo:Nat):Int),((sIx n n hi:Nat):Int)):=by
  have h1:¬ ((1:Int) < 0):=by omega
  unfold Builtin.Slice.sliceAdjust
  simp only [h1,if_false]
  refine Prod.ext ?_ ?_
  · cases lo with
    | none=>rfl
    | some v=>exact clip_eq v n 0
  · cases hi with
    | none=>rfl
    | some v=>exact clip_eq v n n
theorem places_gen (i j:Nat):Builtin.Slice.slicePlaces (i:Int) (j:Int) 1=j - i:=by
  unfold Builtin.Slice.slicePlaces
  have h1:(1:Int) > 0:=by omega
  simp only [h1,if_true,Int.ediv_one]
  split <;> omega
theorem slicePart_ {v:Value} {o:Option Int} {Q:Option Int->Shared->Prop} (p:IsPart v o) (h:Q o s):wpAny (model prog w) A (Builtin.Slice.slicePartIndex v) Q E s:=by
  cases p with
  | none=>exact slicePart_none h
  | int i t=>exact slicePart_int h
theorem sliceApplied_gen {sl:Addr} {vl vu:Value} {lo hi:Option Int} {n:Nat} {Q:Int×Int×Nat->Shared->Prop} (hs:s.heap.IsSliceOf sl vl vu .none) (pl:IsPart vl lo) (pu:IsPart vu hi)
    (h:Q (((sIx n 0 lo:Nat):Int),1,sIx n n hi - sIx n 0 lo) s):wpAny (model prog w) A (Builtin.Slice.sliceApplied (.ref sl) (pure (n:Int))) Q E s:=by
  obtain ⟨os,hos,hcs,hds⟩:=id hs
  unfold Builtin.Slice.sliceApplied Builtin.Slice.sliceFields
  refine wpAny_bind (wpAny_bind (wpAny_field hos hds (x:=vl) rfl (wpAny_bind (wpAny_field hos hds (x:=vu) rfl (wpAny_bind (wpAny_field hos hds (x:=.none) rfl (wpAny_pure ?_)))))))
  refine wpAny_bind (slicePart_none ?_)
  show wpAny _ _ (if ((1:Int) == 0)=true then _ else _) _ _ s
  rw [if_neg (by decide)]
  refine wpAny_bind (slicePart_ pl (wpAny_bind (slicePart_ pu (wpAny_bind (wpAny_pure ?_)))))
  show wpAny _ _ (match Builtin.Slice.sliceAdjust lo hi 1 (n:Int) with | (lo,hi)=>pure (lo,(1:Int),Builtin.Slice.slicePlaces lo hi 1)) _ _ s
  rw [adjust_gen lo hi n]
  show wpAny _ _ (pure (((sIx n 0 lo:Nat):Int),(1:Int),Builtin.Slice.slicePlaces ((sIx n 0 lo:Nat):Int) ((sIx n n hi:Nat):Int) 1)) _ _ s
  rw [places_gen]
  exact wpAny_pure h
theorem pick_gen (xs:Array Value) (i k:Nat):((List.range k).filterMap λ (m:Nat)=>xs[((i:Int) + (m:Int) * 1).toNat]?).toArray=((xs.toList.drop i).take k).toArray:=by
  have e:(λ (m:Nat)=>xs[((i:Int) + (m:Int) * 1).toNat]?)=λ m=>xs[i + m]?:=by
    funext m
    have:((i:Int) + (m:Int) * 1).toNat=i + m:=by omega
    rw [this]
  rw [e]
  have:=pick_run xs i k
  rw [List.filterMap_map] at this
  have e2:((λ x=>xs[x]?) ∘ λ x=>i + x)=λ m=>xs[i + m]?:=rfl
  rw [e2] at this
  rw [this]
theorem getItem_tuple_cut {t sl:Addr} {items:Array Value} {vl vu:Value} {lo hi:Option Int} {Q:Value->Shared->Prop} (ht:IsTup s.heap t items) (hs:s.heap.IsSliceOf sl vl vu .none) (pl:IsPart vl lo) (pu:IsPart vu hi)
    (hw:¬ (sIx items.size 0 lo=0/\sIx items.size items.size hi=items.size))
    (h:Q (.ref s.heap.objs.size) { s with heap:=s.heap.push { cls:=.type "tuple",data:=.seq ((items.toList.drop (sIx items.size 0 lo)).take (sIx items.size items.size hi - sIx items.size 0 lo)).toArray } })
    (hsz:items.size<=sizeLine):wpAny (model prog w) A (getItem (.ref t) (.ref sl)) Q E s:=by
  have htake:sizeOk (.seq ((items.toList.drop (sIx items.size 0 lo)).take (sIx items.size items.size hi - sIx items.size 0 lo)).toArray):=by
    show ((items.toList.drop (sIx items.size 0 lo)).take (sIx items.size items.size hi - sIx items.size 0 lo)).toArray.size<=sizeLine
    rw [List.size_toArray,List.length_take,List.length_drop,Array.length_toList]
    omega
  have hj:sIx items.size items.size hi<=items.size:=sIx_le _ _ (Nat.le_refl _) hi
  obtain ⟨os,hos,hcs,hds⟩:=id hs
  have hTs:s.TypeIs (.ref sl) "slice":=⟨os,hos,hcs⟩
  unfold getItem
  try with_reducible refine wpAny_holding ?_
  first | refine wpAny_bind (wpAny_pure ?_) | skip
  refine wpAny_bind (wpAny_sequenceKey ht.typeIs (by decide) ?_)
  refine wpAny_bind (wpAny_callSpecial?_slot (name:=Str.ofString "__getitem__") ht.typeIs PyProof.Rows.slot_tuple_getitem
    (wpAny_call_entry PyProof.Rows.slot_tuple_getitem ht.typeIs entry_tuple_getitem ?_ (args_tuple_getitem _ _)))
  show wpAny _ _ (Builtin.Tuple.tupleItemsOf (.ref t)>>=_) _ _ s
  refine wpAny_bind (tupleItemsOf_ ht ?_)
  refine wpAny_bind (wpAny_typeOf hTs ?_)
  rw [if_pos (by decide)]
  refine wpAny_bind (sliceApplied_gen hs pl pu ?_)
  have hno:¬ ((((sIx items.size 0 lo:Nat):Int) == 0&&(1:Int) == 1&&(sIx items.size items.size hi - sIx items.size 0 lo) == items.size)=true):=by
    intro q
    rw [Bool.and_eq_true,Bool.and_eq_true] at q
    have q1:((sIx items.size 0 lo:Nat):Int)=0:=eq_of_beq q.1.1
    have q2:sIx items.size items.size hi - sIx items.size 0 lo=items.size:=eq_of_beq q.2
    exact hw ⟨by omega,by omega⟩
  show wpAny _ _ (if (((sIx items.size 0 lo:Nat):Int) == 0&&(1:Int) == 1&&(sIx items.size items.size hi - sIx items.size 0 lo) == items.size)=true then _ else _) _ _ s
  rw [if_neg hno,pick_gen]
  first
    | exact wpAny_bind (m:=Builtin.Tuple.tupleExact _) (wpAny_newObj_type (wpAny_pure ⟨_,rfl,wpAny_pure h⟩) htake)
    | exact wpAny_bind (m:=Builtin.Tuple.tupleExact _) (wpAny_newObj_type (wpAny_bind (wpAny_pure (wpAny_pure ⟨_,rfl,wpAny_pure h⟩))) htake)
    | exact wpAny_bind (wpAny_bind (m:=Builtin.Tuple.tupleExact _) (wpAny_newObj_type (wpAny_pure (wpAny_pure ⟨_,rfl,wpAny_pure h⟩)) htake))
    | exact wpAny_bind (wpAny_bind (m:=Builtin.Tuple.tupleExact _) (wpAny_newObj_type (wpAny_pure ⟨_,rfl,wpAny_pure h⟩) htake))
end
end HT
namespace L2
open PySem PySem.Spec PyProof.Rows
noncomputable abbrev TO:=St->Hp->(Option Int->Hp->Prop)->Prop
noncomputable def PO (X:Cx) (e:Option Expr) (t:TO):Prop :=
  ∀ (pins:List (Addr×Obj)) (s:Shared) (σ:St) (H:Hp) (Q:Option Int->Hp->Prop),Inv X pins σ H s->t σ H Q ->
    wpAny (model X.prog X.w) X.A (evalPart e X.env) (λ u s'=>∃ o H',Inv X pins σ H' s'/\IsPart u o/\Q o H') X.xe s
noncomputable def tNoPart:TO:=λ _ H Q=>Q none H
noncomputable def tPart (t:TE):TO:=λ σ H Q=>t σ H λ x H1=>∃ i,x=.int i/\Q (some i) H1
section
variable {X:Cx} {e:Expr} {te:TE} {lo hi:Option Expr} {tl th:TO} {pos p2:Pos}
theorem po_none:PO X none tNoPart:=by
  intro pins s σ H Q I h
  rw [evalPart_none]
  exact wpAny_pure ⟨none,H,I,.none,h⟩
theorem po_some (h:PE X e te):PO X (some e) (tPart te):=by
  intro pins s σ H Q I hw
  rw [evalPart_some]
  refine thn (h pins s σ H _ I hw) λ u s1 ⟨x,H1,I1,r1,q1⟩=>?_
  obtain ⟨i,rfl,q⟩:=q1
  obtain ⟨t,rfl⟩:=r1
  exact ⟨some i,H1,I1,.int i t,q⟩
noncomputable def SlR (X:Cx) (r:V->Option Int->Option Int->Hp->VK->Prop):Prop :=
  ∀ (pins:List (Addr×Obj)) (s:Shared) (σ:St) (H:Hp) (x:V) (v vl vu:Value) (lo hi:Option Int) (sl:Addr) (Q:VK),Inv X pins σ H s->RelV x v->s.heap.IsSliceOf sl vl vu .none->IsPart vl lo->IsPart vu hi->r x lo hi H Q ->
    ∃ T id,typeLookup (.type T) "__getitem__"=pure (some (.builtin id))/\s.TypeIs v T/\wpAny (model X.prog X.w) X.A (getItem v (.ref sl)) (EP X pins σ Q) X.xe s
theorem SlR.or {r r':V->Option Int->Option Int->Hp->VK->Prop} (h:SlR X r) (h':SlR X r'):SlR X (λ x lo hi H Q=>r x lo hi H Q∨r' x lo hi H Q):=by
  intro pins s σ H x v vl vu lo hi sl Q I rx hs pl pu q
  rcases q with q | q
  · exact h pins s σ H x v vl vu lo hi sl Q I rx hs pl pu q
  · exact h' pins s σ H x v vl vu lo hi sl Q I rx hs pl pu q
noncomputable def tSl (r:V->Option Int->Option Int->Hp->VK->Prop) (te:TE) (tl th:TO):TE:=λ σ H Q=>te σ H λ x H1=>tl σ H1 λ l H2=>th σ H2 λ u H3=>r x l u H3 Q
theorem pe_slice {r:V->Option Int->Option Int->Hp->VK->Prop} (hr:SlR X r) (he:PE X e te) (hl:PO X lo tl) (hu:PO X hi th):PE X (.Subscript e (.Slice lo hi none p2) pos) (tSl r te tl th):=by
  intro pins s σ H Q I h
  refine Subscript_ (thn (he pins s σ H _ I h) λ v s1 ⟨x,H1,I1,r1,q1⟩=>?_)
  refine wpAny_Slice (thn (hl pins s1 σ H1 _ I1 q1) λ vl s2 ⟨l,H2,I2,pl,q2⟩=>thn (hu pins s2 σ H2 _ I2 q2) λ vu s3 ⟨u,H3,I3,pu,q3⟩=>?_)
  rw [evalPart_none]
  refine wpAny_pure ?_
  have I4:Inv X pins σ H3 { s3 with heap:=s3.heap.push { cls:=.type "slice",data:=.fields #[vl,vu,.none] } }:=I3.kept (t':=s3.toks) λ b ob q=>Heap.get?_push_of_some _ q
  obtain ⟨T,id,hT,ht,hg⟩:=hr pins { s3 with heap:=s3.heap.push { cls:=.type "slice",data:=.fields #[vl,vu,.none] } } σ H3 x v vl vu l u s3.heap.objs.size Q I4 r1 (Heap.IsSliceOf.new ..) pl pu q3
  show wpAny (model X.prog X.w) X.A (subscriptTail e (.Slice lo hi none p2) v (.ref s3.heap.objs.size)) (EP X pins σ Q) X.xe { s3 with heap:=s3.heap.push { cls:=.type "slice",data:=.fields #[vl,vu,.none] } }
  exact tail_any (ops:=[.ref s3.heap.objs.size,v]) ht hT hg (by with_unfolding_all rfl)
noncomputable def cutV (xs:List V) (lo hi:Option Int):List V:=(xs.drop (HT.sIx xs.length 0 lo)).take (HT.sIx xs.length xs.length hi - HT.sIx xs.length 0 lo)
theorem cutV_length (xs:List V) (lo hi:Option Int):(cutV xs lo hi).length<=xs.length:=by
  unfold cutV
  rw [List.length_take,List.length_drop]
  omega
noncomputable def rSlT (K:PySem.W.Frag):V->Option Int->Option Int->Hp->VK->Prop:=λ x lo hi H Q=>∃ a xs,x=.ref a/\SqT K H a xs /\
  ¬ (HT.sIx xs.length 0 lo=0/\HT.sIx xs.length xs.length hi=xs.length)/\∀ p,H p=none->Q (.ref p) (upd H p (.tup (cutV xs lo hi)))
theorem sl_tup:SlR X (rSlT X.K):=by
  intro pins s σ H x v vl vu lo hi sl Q I rx hs pl pu h
  obtain ⟨a,xs,rfl,hx,hw,q⟩:=h
  cases rx
  obtain ⟨its,r,ht,hz⟩:=I.tuple hx
  have hlen:its.toArray.size=xs.length:=by rw [List.size_toArray]; exact r.length.symm
  refine ⟨"tuple",_,PyProof.Rows.slot_tuple_getitem.lookup,ht.typeIs,?_⟩
  refine HT.getItem_tuple_cut ht hs pl pu (by rw [hlen]; exact hw) ?_ (by rw [hlen]; exact hz)
  rw [hlen]
  refine ⟨.ref s.heap.objs.size,_,I.laid (t':=s.toks) (o:=.tup (cutV xs lo hi)) (λ b ob q=>Heap.get?_push_of_some _ q) (Nat.le_refl _) ?_,rfl,q _ (I.hok.fresh (Nat.le_refl _))⟩
  exact ⟨Nat.le_trans (cutV_length xs lo hi) hz,_,(r.drop (HT.sIx xs.length 0 lo)).take (HT.sIx xs.length xs.length hi - HT.sIx xs.length 0 lo),IsTup.new _ _⟩
noncomputable def rCatT (K:PySem.W.Frag):R2:=λ x y H Q=>∃ a b xs ys,x=.ref a/\y=.ref b/\SqT K H a xs/\SqT K H b ys/\xs≠[]/\xs.length + ys.length<=sizeLine /\
  (ys=[]->Q (.ref a) H)/\(ys≠[]->∀ p,H p=none->Q (.ref p) (upd H p (.tup (xs++ys))))
theorem Vals.nil_iff {xs:List V} {us:List Value} (r:Vals xs us):us=[]↔xs=[]:=by
  cases r with
  | nil=>simp
  | cons _ _=>simp
theorem op_catT:OpR X (binaryOp .Add) (rCatT X.K):=by
  intro pins s σ H x y v u Q I rx ry h
  obtain ⟨a,b,xs,ys,rfl,rfl,ha,hb,hx,hz,q1,q2⟩:=h
  cases rx
  cases ry
  obtain ⟨its,r1,p1,_⟩:=I.tuple ha
  obtain ⟨its2,r2,p2,_⟩:=I.tuple hb
  refine HT.cat_tup p1 p2 (λ z=>hx (r1.nil_iff.mp z)) (λ z=>⟨.ref a,H,I,rfl,q1 (r2.nil_iff.mp z)⟩) (λ z=>?_) (by rw [<- r1.length,<- r2.length]; exact hz)
  refine ⟨.ref s.heap.objs.size,_,I.laid (t':=s.toks) (o:=.tup (xs++ys)) (λ b ob q=>Heap.get?_push_of_some _ q) (Nat.le_refl _) ?_,rfl,q2 (λ w=>z (r2.nil_iff.mpr w)) _ (I.hok.fresh (Nat.le_refl _))⟩
  exact ⟨by rw [List.length_append]; exact hz,_,r1.append r2,IsTup.new _ _⟩
end
end L2
namespace L2
open PySem PySem.Spec PyProof.Rows
noncomputable def ixN (n:Nat) (i:Int):Option Nat:=if 0<=i then (if i < n then some i.toNat else none) else if -(n:Int)<=i then some (i + n).toNat else none
noncomputable def atI {α:Type} (xs:List α) (i:Int):Option α:=(ixN xs.length i).bind λ j=>xs[j]?
theorem ixN_seq {n:Nat} {i:Int} {j:Nat} (h:ixN n i=some j):seqIndex? i n=some j/\j < n/\-(n:Int)<=i/\i < n:=by
  unfold ixN at h
  by_cases h0:0<=i
  · rw [if_pos h0] at h
    by_cases h1:i < n
    · rw [if_pos h1] at h
      have e:i.toNat=j:=Option.some.inj h
      exact ⟨by rw [seqIndex_of h0 h1,e],by omega,by omega,h1⟩
    · rw [if_neg h1] at h; cases h
  · rw [if_neg h0] at h
    by_cases h1:-(n:Int)<=i
    · rw [if_pos h1] at h
      have e:(i + n).toNat=j:=Option.some.inj h
      exact ⟨by rw [seqIndex_neg (by omega) h1,e],by omega,h1,by omega⟩
    · rw [if_neg h1] at h; cases h
theorem atI_get {α:Type} {xs:List α} {i:Int} {v:α} (h:atI xs i=some v):∃ j,seqIndex? i xs.length=some j/\xs[j]?=some v/\j < xs.length/\-(xs.length:Int)<=i/\i < xs.length:=by
  unfold atI at h
  cases e:ixN xs.length i with
  | none=>rw [e] at h; cases h
  | some j =>
    rw [e] at h
    obtain ⟨h1,h2,h3,h4⟩:=ixN_seq e
    exact ⟨j,h1,h,h2,h3,h4⟩
theorem atI_nat {α:Type} {xs:List α} {j:Nat} {v:α} (h:xs[j]?=some v):atI xs (j:Int)=some v:=by
  have hj:j < xs.length:=(List.getElem?_eq_some_iff.mp h).1
  have e:ixN xs.length (j:Int)=some j:=by
    unfold ixN
    rw [if_pos (by omega),if_pos (by omega)]; simp
  unfold atI; rw [e]; exact h
noncomputable def PlainIx (b:Expr):Prop:=∀ o i,subscripted b false o i=operate [o,i] (getItem o i)
noncomputable def IxR (X:Cx) (r:R2):Prop :=
  ∀ (value slice:Expr) (pins:List (Addr×Obj)) (s:Shared) (σ:St) (H:Hp) (x y:V) (v u:Value) (Q:VK),Inv X pins σ H s->RelV x v->RelV y u->r x y H Q ->
    subscripted slice false v u=operate [v,u] (getItem v u)->wpAny (model X.prog X.w) X.A (subscriptTail value slice v u) (EP X pins σ Q) X.xe s
noncomputable def MtR (X:Cx) (id:String) (r:V->List V->Hp->VK->Prop):Prop :=
  ∀ (pins:List (Addr×Obj)) (s:Shared) (σ:St) (H:Hp) (x:V) (xs:List V) (v:Value) (us:List Value) (Q:VK),Inv X pins σ H s->RelV x v->Vals xs us->r x xs H Q ->
    wpAny (model X.prog X.w) X.A (call (.builtin id) (v::us)) (EP X pins σ Q) X.xe s
section
variable {X:Cx} {a b:Expr} {ta tb:TE} {pos:Pos}
theorem IxR.or {r r':R2} (h:IxR X r) (h':IxR X r'):IxR X (λ x y H Q=>r x y H Q∨r' x y H Q):=by
  intro value slice pins s σ H x y v u Q I rx ry q hs
  rcases q with q | q
  · exact h value slice pins s σ H x y v u Q I rx ry q hs
  · exact h' value slice pins s σ H x y v u Q I rx ry q hs
theorem MtR.or {id:String} {r r':V->List V->Hp->VK->Prop} (h:MtR X id r) (h':MtR X id r'):MtR X id (λ x xs H Q=>r x xs H Q∨r' x xs H Q):=by
  intro pins s σ H x xs v us Q I rx rs q
  rcases q with q | q
  · exact h pins s σ H x xs v us Q I rx rs q
  · exact h' pins s σ H x xs v us Q I rx rs q
theorem pe_ix {r:R2} (hr:IxR X r) (ha:PE X a ta) (hb:PE X b tb) (hs:PlainIx b):PE X (.Subscript a b pos) (tOp r ta tb):=by
  intro pins s σ H Q I h
  exact Subscript_ (binT ha hb I h λ v u s2 x y H2 I2 rx ry q=>hr a b pins s2 σ H2 x y v u Q I2 rx ry q (hs _ _))
noncomputable def rIxL (K:PySem.W.Frag):R2:=λ x y H Q=>∃ p xs i v,x=.ref p/\y=.int i/\SqL K H p xs/\atI xs i=some v/\Q v H
noncomputable def rIxT (K:PySem.W.Frag):R2:=λ x y H Q=>∃ p xs i v,x=.ref p/\y=.int i/\SqT K H p xs/\atI xs i=some v/\Q v H
noncomputable def rIxS:R2:=λ x y H Q=>∃ z i c,x=.str z/\y=.int i/\z.length<=sizeLine/\atI z.cps.toList i=some c/\Q (.str ⟨#[c]⟩) H
theorem ix_list:IxR X (rIxL X.K):=by
  intro value slice pins s σ H x y v u Q I rx ry h hs
  obtain ⟨p,xs,i,z,rfl,rfl,hq,he,q⟩:=h
  cases rx
  obtain ⟨t,rfl⟩:=ry
  obtain ⟨its,r,pl,hz⟩:=I.list hq
  obtain ⟨j,h1,h2,h3,h4,h5⟩:=atI_get he
  obtain ⟨w,ew,rw'⟩:=r.get h2
  have hl:=r.length
  have hn:=line63
  have fin:EP X pins σ Q w s:=⟨z,H,I,rw',q⟩
  by_cases h0:0<=i
  · have hj:i.toNat=j:=by
      rw [seqIndex_of h0 h5] at h1
      exact Option.some.inj h1
    exact item_listR pl.isList h0 (by omega) (by rw [hj]; simpa using ew) fin hs
  · have hj:(i + (its.toArray.size:Int)).toNat=j:=by
      rw [seqIndex_neg (by omega) h4] at h1
      rw [List.size_toArray,<- hl]
      exact Option.some.inj h1
    exact subscriptTail_builtinR (x:=w) pl.isList.typeIs slot_list_getitem.lookup
      (wpAny_getItem_list_neg (Q:=λ r s'=>r=w/\EP X pins σ Q r s') pl.isList (by omega) (by rw [List.size_toArray] <;> omega) (by omega) (by rw [hj]; simpa using ew) ⟨rfl,fin⟩) hs
theorem ix_tup:IxR X (rIxT X.K):=by
  intro value slice pins s σ H x y v u Q I rx ry h hs
  obtain ⟨p,xs,i,z,rfl,rfl,hq,he,q⟩:=h
  cases rx
  obtain ⟨t,rfl⟩:=ry
  obtain ⟨its,r,pl,hz⟩:=I.tuple hq
  obtain ⟨j,h1,h2,h3,h4,h5⟩:=atI_get he
  obtain ⟨w,ew,rw'⟩:=r.get h2
  have hl:=r.length
  have hn:=line63
  have fin:EP X pins σ Q w s:=⟨z,H,I,rw',q⟩
  exact subscriptTail_builtinR (x:=w) pl.typeIs slot_tuple_getitem.lookup
    (getItem_tuple (j:=j) (Q:=λ r s'=>r=w/\EP X pins σ Q r s') pl (by omega) (by omega) (by rw [List.size_toArray,<- hl]; exact h1) (by simpa using ew) ⟨rfl,fin⟩) hs
theorem ix_str:IxR X rIxS:=by
  intro value slice pins s σ H x y v u Q I rx ry h hs
  obtain ⟨z,i,c,rfl,rfl,hz,he,q⟩:=h
  obtain ⟨t,rfl⟩:=rx
  obtain ⟨t',rfl⟩:=ry
  obtain ⟨j,h1,h2,h3,h4,h5⟩:=atI_get he
  have hl:z.cps.toList.length=z.length:=by simp [Str.length]
  rw [hl] at h1 h4 h5
  have hn:=line63
  exact tail_any (typeIs_str s z t) slot_str_getitem.lookup (getItem_str (c:=c) (by
    have e1:decide (i < -(2 ^ 63:Int))=false:=decide_eq_false (by omega)
    have e2:decide (i >= 2 ^ 63)=false:=decide_eq_false (by omega)
    rw [e1,e2,Bool.or_false]) (by rw [h1]; simpa using h2) ⟨.str ⟨#[c]⟩,H,I.tok _,⟨_,rfl⟩,q⟩) hs
noncomputable def rIx (K:PySem.W.Frag):R2:=λ x y H Q=>rIxL K x y H Q∨rIxT K x y H Q∨rIxS x y H Q
theorem ix_seq:IxR X (rIx X.K):=ix_list.or (ix_tup.or ix_str)
theorem slice_bounds (lo hi:Option Int) (n:Nat):(sliceBounds lo hi none n).1=((HT.sIx n 0 lo:Nat):Int)/\(sliceBounds lo hi none n).2.1=((HT.sIx n n hi:Nat):Int)/\(sliceBounds lo hi none n).2.2=1:=by
  refine ⟨?_,?_,rfl⟩
  · cases lo with
    | none=>simp [sliceBounds,HT.sIx]
    | some i =>
      simp only [sliceBounds,HT.sIx,Option.getD_none,show (1:Int) > 0 by decide,if_true]
      by_cases h:i < 0
      · simp only [h,if_true] <;> omega
      · simp only [h,if_false] <;> omega
  · cases hi with
    | none=>simp [sliceBounds,HT.sIx]
    | some i =>
      simp only [sliceBounds,HT.sIx,Option.getD_none,show (1:Int) > 0 by decide,if_true]
      by_cases h:i < 0
      · simp only [h,if_true] <;> omega
      · simp only [h,if_false] <;> omega
theorem slicePick_cut (its:List Value) (lo hi:Option Int):slicePick its.toArray lo hi none=((its.drop (HT.sIx its.length 0 lo)).take (HT.sIx its.length its.length hi - HT.sIx its.length 0 lo)).toArray:=by
  obtain ⟨h1,h2,h3⟩:=slice_bounds lo hi its.toArray.size
  unfold slicePick
  rw [h1,h2,h3]
  simp only [sliceRange_one,pick_run,List.size_toArray] <;> rfl
noncomputable def rSlL (K:PySem.W.Frag):V->Option Int->Option Int->Hp->VK->Prop:=λ x lo hi H Q=>∃ a xs,x=.ref a/\SqL K H a xs/\∀ p,H p=none->Q (.ref p) (upd H p (.lst (cutV xs lo hi)))
theorem sl_list:SlR X (rSlL X.K):=by
  intro pins s σ H x v vl vu lo hi sl Q I rx hs pl pu h
  obtain ⟨a,xs,rfl,hx,q⟩:=h
  cases rx
  obtain ⟨its,r,ht,hz⟩:=I.list hx
  have hlen:=r.length
  refine ⟨"list",_,slot_list_getitem.lookup,ht.isList.typeIs,?_⟩
  refine wpAny_getItem_list_slice ht.isList hs pl pu .none (by simp) ?_ (by rw [List.size_toArray] <;> omega)
  rw [slicePick_cut,<- hlen]
  refine ⟨.ref s.heap.objs.size,_,I.laid (t':=s.toks) (o:=.lst (cutV xs lo hi)) (λ b ob q=>Heap.get?_push_of_some _ q) (Nat.le_refl _) ?_,rfl,q _ (I.hok.fresh (Nat.le_refl _))⟩
  exact ⟨Nat.le_trans (cutV_length xs lo hi) hz,_,0,(r.drop (HT.sIx xs.length 0 lo)).take (HT.sIx xs.length xs.length hi - HT.sIx xs.length 0 lo),Heap.get?_push_size _ rfl⟩
theorem CallR.or {f:Value} {r r':List V->Hp->VK->Prop} (h:CallR X f r) (h':CallR X f r'):CallR X f (λ xs H Q=>r xs H Q∨r' xs H Q):=by
  intro pins s σ H xs us Q I rs q
  rcases q with q | q
  · exact h pins s σ H xs us Q I rs q
  · exact h' pins s σ H xs us Q I rs q
theorem call_list_of:CallR X (.type "list") (λ xs H Q=>∃ p ys,xs=[.ref p]/\(SqL X.K H p ys∨SqT X.K H p ys)/\∀ l,H l=none->Q (.ref l) (upd H l (.lst ys))):=by
  intro pins s σ H xs us Q I r h
  obtain ⟨p,ys,rfl,hq,q⟩:=h
  obtain ⟨u,rfl,rx⟩:=vals1 r
  cases rx
  have fin:∀ (its:List Value),Vals ys its->ys.length<=sizeLine->∀ (h':Heap) (c':Nat),(∀ b o',s.heap.get? b=some o'->h'.get? b=some o') ->
      h'.get? s.heap.objs.size=some { cls:=.type "list",dict:=none,data:=.seq its.toArray c',slots:=#[] }->EP X pins σ Q (.ref s.heap.objs.size) { s with heap:=h' }:=λ its r' hz h' c' kp e =>
    ⟨.ref s.heap.objs.size,_,I.laid (t':=s.toks) kp (Nat.le_refl _) (show ObjOk X.prog X.w _ h' _ (.lst ys) from ⟨hz,its,c',r',e⟩),rfl,q _ (I.hok.fresh (Nat.le_refl _))⟩
  rcases hq with hq | hq
  · obtain ⟨its,r',pl,hz⟩:=I.list hq
    have hlen:=r'.length
    obtain ⟨o,ho,hc,n,hd⟩:=pl.isList
    exact call_list_seq p (.inl rfl) ho hc hd (λ h' c' kp e=>fin its r' hz h' c' kp e) (by simp only [List.size_toArray] <;> omega)
  · obtain ⟨its,r',pl,hz⟩:=I.tuple hq
    have hlen:=r'.length
    obtain ⟨o,ho,hc,n,hd⟩:=pl
    exact call_list_seq p (.inr rfl) ho hc hd (λ h' c' kp e=>fin its r' hz h' c' kp e) (by simp only [List.size_toArray] <;> omega)
theorem call_tuple_of:CallR X (.type "tuple") (λ xs H Q=>∃ p ys,xs=[.ref p]/\((SqL X.K H p ys/\∀ l,H l=none->Q (.ref l) (upd H l (.tup ys)))∨(SqT X.K H p ys/\Q (.ref p) H))):=by
  intro pins s σ H xs us Q I r h
  obtain ⟨p,ys,rfl,h⟩:=h
  obtain ⟨u,rfl,rx⟩:=vals1 r
  cases rx
  rcases h with ⟨hq,q⟩ | ⟨hq,q⟩
  · obtain ⟨its,r',pl,hz⟩:=I.list hq
    have hlen:=r'.length
    refine call_tuple_list pl.isList (λ h' kp=>?_) (by simp only [List.size_toArray] <;> omega)
    have I1:Inv X pins σ H { s with heap:=h' }:=I.kept (t':=s.toks) kp
    have I2:Inv X pins σ (upd H h'.objs.size (.tup ys)) { s with heap:=h'.push { cls:=.type "tuple",data:=.seq its.toArray } } :=
      I1.laid (t':=s.toks) (λ b o e=>Heap.get?_push_of_some _ e) (Nat.le_refl _) (show ObjOk X.prog X.w _ _ _ (.tup ys) from ⟨hz,its,r',IsTup.new _ _⟩)
    exact ⟨.ref h'.objs.size,_,I2,rfl,q _ (I1.hok.fresh (Nat.le_refl _))⟩
  · obtain ⟨its,r',pl,hz⟩:=I.tuple hq
    exact call_tuple_same pl ⟨.ref p,H,I,rfl,q⟩
noncomputable def tyV (K:PySem.W.Frag) (T:String) (x:V) (H:Hp):Prop:=match x with
  | .str _=>T="str"
  | .int _=>T="int"
  | .ref p=>(T="list"/\∃ xs,SqL K H p xs)∨(T="tuple"/\∃ o,K.lookup p=some o/\o.cls=.type "tuple"/\o.dict=none) ∨
      (T="dict"/\((∃ kvs,H p=some (.dK kvs))∨∃ kvs,H p=some (.dT kvs)))∨(T="set"/\∃ S n,H p=some (.set S n))
  | _=>False
theorem tyV_is {pins:List (Addr×Obj)} {σ:St} {H:Hp} {s:Shared} {T:String} {x:V} {v:Value} (I:Inv X pins σ H s) (r:RelV x v) (ty:tyV X.K T x H) :
    s.TypeIs v T/\∀ a,v=.ref a->∃ ob,s.heap.get? a=some ob/\ob.dict=none:=by
  cases x with
  | str z =>
    obtain ⟨t,rfl⟩:=r
    cases (show T="str" from ty)
    exact ⟨typeIs_str s z t,λ _ e=>nomatch e⟩
  | int i =>
    obtain ⟨t,rfl⟩:=r
    cases (show T="int" from ty)
    exact ⟨typeIs_int s i t,λ _ e=>nomatch e⟩
  | ref p =>
    cases r
    rcases ty with ⟨rfl,xs,hq⟩ | ⟨rfl,o,hk,hc,hd⟩ | ⟨rfl,hk⟩ | ⟨rfl,S,n,hk⟩
    · obtain ⟨its,_,pl,_⟩:=I.list hq
      refine ⟨pl.isList.typeIs,λ a e=>?_⟩
      cases e
      obtain ⟨o,n,e,c,hd,_⟩:=pl
      exact ⟨o,e,hd⟩
    · refine ⟨⟨o,I.kIn p o hk,hc⟩,λ a e=>?_⟩
      cases e
      exact ⟨o,I.kIn _ o hk,hd⟩
    · have z:∃ o,s.heap.get? p=some o/\o.ExactDict:=by
        rcases hk with ⟨kvs,hk⟩ | ⟨kvs,hk⟩
        · obtain ⟨_,_,_,_,o,_,_,e,ex,_⟩:=I.hok p _ hk
          exact ⟨o,e,ex⟩
        · obtain ⟨_,_,_,_,o,_,_,e,ex,_⟩:=I.hok p _ hk
          exact ⟨o,e,ex⟩
      obtain ⟨o,e,ex⟩:=z
      refine ⟨⟨o,e,ex.1⟩,λ a e2=>?_⟩
      cases e2
      exact ⟨o,e,ex.2.1⟩
    · obtain ⟨o,_,_,_,e,ex,_⟩:=I.hok p _ hk
      refine ⟨⟨o,e,ex.1⟩,λ a e2=>?_⟩
      cases e2
      exact ⟨o,e,ex.2.1⟩
  | _=>exact False.elim ty
noncomputable def tBM0 (K:PySem.W.Frag) (T:String) (r:V->List V->Hp->VK->Prop) (to:TE):TE:=λ σ H Q=>to σ H λ x H1=>tyV K T x H1/\r x [] H1 Q
noncomputable def tBM (K:PySem.W.Frag) (T:String) (r:V->List V->Hp->VK->Prop) (to:TE) (t:TA):TE:=λ σ H Q=>to σ H λ x H1=>tyV K T x H1/\t σ H1 λ xs H2=>r x xs H2 Q
variable {o e:Expr} {es:List Expr} {to:TE} {t:TA} {name:Str} {apos cpos:Pos} {T id:String} {r:V->List V->Hp->VK->Prop}
theorem pe_bm0 (pa:PlainAttrs T) (slot:Slot T name id) (hty:typeOf (.builtin id)=pure (.type "method_descriptor")) (hm:MtR X id r) (ho:PE X o to)
    (hbase:attributeBase o name X.env (eval o X.env)=eval o X.env:=by rfl) (hline:(apos.endLine == cpos.line)=true:=by rfl):PE X (.Call (.Attribute o name apos) [] [] cpos) (tBM0 X.K T r to):=by
  intro pins s σ H Q I h
  refine wpAny_Call_method0_late hbase hline (thn (ho pins s σ H _ I h) λ v s1 ⟨x,H1,I1,r1,ty,q1⟩=>?_)
  obtain ⟨h1,h2⟩:=tyV_is I1 r1 ty
  exact ⟨T,id,pa,slot,hty,h1,h2,Calls.callWith_builtin rfl (PySem.evalArgs_none (hm pins s1 σ H1 x [] v [] Q I1 r1 .nil q1))⟩
theorem pe_bm (pa:PlainAttrs T) (slot:Slot T name id) (hty:typeOf (.builtin id)=pure (.type "method_descriptor")) (hm:MtR X id r) (ho:PE X o to) (ha:PA X (e::es) t)
    (hbase:attributeBase o name X.env (eval o X.env)=eval o X.env:=by rfl)
    (hfew:((backTo cpos (starEach (e::es) X.env)).all (λ x=>!x.1)&&(backToKw cpos (keywordEach [] X.env)).all (λ x=>x.1.isSome)
     &&decide ((e::es).length + ([]:List Keyword).length + (if ([]:List Keyword).isEmpty then 0 else 1) < 30))=true:=by rfl)
    (hline:(apos.endLine == cpos.line)=true:=by rfl) (hs:starEach (e::es) X.env=(false,eval e X.env)::starEach es X.env:=by rfl) (hplain:(backTo cpos (starEach es X.env)).any (·.1)=false:=by rfl) :
    PE X (.Call (.Attribute o name apos) (e::es) [] cpos) (tBM X.K T r to t):=by
  intro pins s σ H Q I h
  refine wpAny_Call_method_late hbase hfew hline rfl (thn (ho pins s σ H _ I h) λ v s1 ⟨x,H1,I1,r1,ty,q1⟩=>?_)
  obtain ⟨h1,h2⟩:=tyV_is I1 r1 ty
  refine ⟨T,id,pa,slot,hty,h1,h2,?_⟩
  have hA:=ha cpos pins s1 σ H1 _ I1 q1
  rw [hs] at hA ⊢
  refine Calls.callWith_builtin (by show (false||(backTo cpos (starEach es X.env)).any (·.1))=false; rw [hplain] <;> rfl) (Calls.evalArgs_plain ?_)
  exact thn hA λ us s2 ⟨vs,H2,I2,r2,q2⟩=>hm pins s2 σ H2 x vs v us Q I2 r1 r2 q2
end
end L2
namespace L2
open PySem PySem.Spec PyProof.Rows
noncomputable def MtM (X:Cx) (id:String) (r:V->List V->Hp->VK->Prop):Prop :=
  ∀ (pins:List (Addr×Obj)) (s:Shared) (σ:St) (H:Hp) (x:V) (xs:List V) (v:Value) (us:List Value) (Q:VK),Inv X pins σ H s->RelV x v->Vals xs us->r x xs H Q ->
    wpAny (model X.prog X.w) X.A (call (.builtin id) (v::us)) (EP X pins σ Q) X.xe s
theorem Vals.one:∀ {x:V} {us:List Value},Vals [x] us->∃ u,us=[u]/\RelV x u
  | _,_,.cons r .nil=>⟨_,rfl,r⟩
theorem Vals.two:∀ {x y:V} {us:List Value},Vals [x,y] us->∃ u v,us=[u,v]/\RelV x u/\RelV y v
  | _,_,_,.cons r (.cons q .nil)=>⟨_,_,rfl,r,q⟩
theorem Vals.zero:∀ {us:List Value},Vals [] us->us=[]
  | _,.nil=>rfl
theorem Vals.dropLast {xs:List V} {us:List Value} (h:Vals xs us):Vals xs.dropLast us.dropLast:=by
  induction h with
  | nil=>exact .nil
  | cons r t ih =>
    cases t with
    | nil=>exact .nil
    | cons q t'=>exact .cons r ih
theorem Vals.reverse {xs:List V} {us:List Value} (h:Vals xs us):Vals xs.reverse us.reverse:=by
  induction h with
  | nil=>exact .nil
  | cons r t ih=>rw [List.reverse_cons,List.reverse_cons]; exact Vals.append ih (.cons r .nil)
theorem erase_last {α:Type} (l:List α):l.eraseIdx (l.length - 1)=l.dropLast:=by
  induction l with
  | nil=>rfl
  | cons a r ih =>
    cases r with
    | nil=>rfl
    | cons b r =>
      have e:(a::b::r).length - 1=((b::r).length - 1) + 1:=by
        have h1:(a::b::r).length=r.length + 2:=rfl
        have h2:(b::r).length=r.length + 1:=rfl
        omega
      rw [e,List.eraseIdx_cons_succ,ih]
      all_goals rfl
section
variable {X:Cx} {pins:List (Addr×Obj)} {σ:St} {H:Hp} {s:Shared} {l b:Addr} {xs ys zs:List V}
theorem Inv.lset {its its':List Value} {n:Nat} {f:Array Value->Array Value} {t':Nat} (I:Inv X pins σ H s) (hH:H l=some (.lst xs))
    (e:s.heap.get? l=some { cls:=.type "list",data:=.seq its.toArray n }) (hf:f its.toArray=its'.toArray) (hv:Vals ys its') (hz:ys.length<=sizeLine) :
    Inv X pins σ (upd H l (.lst ys)) { s with heap:=s.heap.update l (Obj.mapSeq f),toks:=t' }:=by
  have q:=PySem.IsL.update e f
  rw [hf] at q
  refine I.write (x:=l) (e:=l) (by rw [hH]; exact trivial) (.inl rfl) (λ b' u hb hu=>(Heap.get?_update_other s.heap (Obj.mapSeq f) (Ne.symm hb)).trans hu) ⟨_,q⟩ ?_
  exact ⟨hz,its',_,hv,q⟩
theorem Inv.fresh (I:Inv X pins σ H s):H s.heap.objs.size=none:=I.hok.fresh (Nat.le_refl _)
theorem Inv.lstM (I:Inv X pins σ H s) (hH:H l=some (.lst xs)):xs.length<=sizeLine/\∃ (its:List Value) (n:Nat),Vals xs its/\xs.length=its.length/\s.heap.get? l=some { cls:=.type "list",data:=.seq its.toArray n }:=by
  obtain ⟨z,its,n,r,e⟩:=I.hok l _ hH
  exact ⟨z,its,n,r,r.length,e⟩
theorem notLongL {n:Nat} (h:n<=sizeLine):Builtin.List.listTooLong n=false:=by
  unfold Builtin.List.listTooLong
  exact decide_eq_false (by omega)
end
section
variable {X:Cx}
noncomputable def rAppend:V->List V->Hp->VK->Prop:=λ x vs H Q=>∃ l xs y,x=.ref l/\vs=[y]/\H l=some (.lst xs)/\xs.length < sizeLine/\Q .non (upd H l (.lst (xs++[y])))
theorem mt_append:MtM X "list.append" rAppend:=by
  intro pins s σ H x vs v us Q I rx rv h
  obtain ⟨l,xs,y,rfl,rfl,hH,hz,q⟩:=h
  cases rx
  obtain ⟨u,rfl,ru⟩:=rv.one
  obtain ⟨z,its,n,r,hl,e⟩:=I.lstM hH
  refine call_meets F.slot_list_append ⟨_,e,rfl⟩ F.entry_list_append (F.args_list_append_2 _ _) (PySem.list_append l its.toArray n u (by rw [List.size_toArray]; omega)) ⟨e,?_⟩
  refine ⟨.non,_,I.lset (its':=its++[u]) hH e (by simp) (r.append (.cons ru .nil)) ?_,rfl,q⟩
  rw [List.length_append,List.length_singleton]
  omega
noncomputable def rPop:V->List V->Hp->VK->Prop:=λ x vs H Q=>∃ l xs y,x=.ref l/\vs=[]/\H l=some (.lst xs)/\xs[xs.length - 1]?=some y/\Q y (upd H l (.lst xs.dropLast))
theorem mt_pop:MtM X "list.pop" rPop:=by
  intro pins s σ H x vs v us Q I rx rv h
  obtain ⟨l,xs,y,rfl,rfl,hH,hy,q⟩:=h
  cases rx
  have hus:=rv.zero
  subst hus
  obtain ⟨z,its,n,r,hl,e⟩:=I.lstM hH
  obtain ⟨u,hu,ru⟩:=r.get hy
  have hy':its.toArray[its.toArray.size - 1]?=some u:=by
    show its.toArray[its.length - 1]?=some u
    rw [<- Array.getElem?_toList,<- hl]
    exact hu
  refine call_meets F.slot_list_pop ⟨_,e,rfl⟩ F.entry_list_pop (F.args_list_pop_1 _) (MeetsSeq.list_pop_last l its.toArray n u hy' (by rw [List.size_toArray]; omega)) ⟨e,?_⟩
  refine ⟨y,_,I.lset (its':=its.dropLast) hH e ?_ r.dropLast ?_,ru,q⟩
  · show its.toArray.eraseIdxIfInBounds (its.toArray.size - 1)=its.dropLast.toArray
    rw [List.size_toArray,List.eraseIdxIfInBounds_toArray,erase_last]
  · rw [List.length_dropLast]
    omega
end
section
variable {prog:Program} {w:World} {A:Around} {E:Value->Shared->Prop} {s:Shared}
end
section
variable {X:Cx}
end
end L2
namespace Att
open PySem PySem.W PySem.Calls PyProof.Rows
theorem ints_of_wellAll {P:Params} {h:Heap}:∀ (ns:List Int) (vs:List Value),WellAll P h vs (ns.map WData.int)->IntsAre vs ns:=by
  intro ns
  induction ns with
  | nil =>
    intro vs w
    rw [List.map_nil] at w
    cases w
    exact .nil
  | cons n ns ih =>
    intro vs w
    rw [List.map_cons] at w
    cases w with
    | cons a b =>
      cases a
      exact .cons _ _ (ih _ b)
theorem script_of {l:OpenLaw} {n:Nat} (hn:l.most=some n) {P:Params} {h:Heap} {args:List WData} {vals:List Value}
    (hpre:l.row.toRowW.claim.pre args=true) (hwl:WellAll P h vals args) :
    ∃ a vs ns,vals=[Value.ref a]/\args=[WData.list (ns.map WData.int)]/\h.get? a=some { cls:=.type "list",data:=.seq vs.toArray }/\IntsAre vs ns/\ns.length<=n:=by
  have hsh:WShape.hasAll [] args [.list .int]=true:=(pre_splitW hpre).1
  have hc:l.pre.holds [] { args:=args }=true:=(pre_splitW hpre).2
  obtain ⟨d,r,rfl,h1,h2⟩:=hasAllW_cons hsh
  obtain rfl:=hasAllW_nil h2
  obtain ⟨xs,rfl,h3⟩:=hasW_list h1
  obtain ⟨ns,rfl⟩:=items_int h3
  have hlen:ns.length<=n:=by
    unfold OpenLaw.pre at hc
    have h4:(WTm.not (.lt (.lit (.int (n:Int))) (.len (.arg 0)))).holds [] { args:=[.list (ns.map .int)] }=true:=by
      have h4:=(holds_andW hc).1
      rw [hn] at h4
      exact h4
    have h5:=condW_of h4 (w_not (w_lt w_lit (w_len_list (w_arg rfl))))
    rw [List.length_map] at h5
    refine Nat.le_of_not_lt λ q=>?_
    have q':(n:Int) < ((ns.length:Nat):Int):=by omega
    first
      | (rw [decide_eq_true q'] at h5; exact absurd h5 (by decide))
      | (simp at h5; omega)
  cases hwl with
  | cons w1 w2 =>
    cases w2
    cases w1 with
    | list ho hall=>exact ⟨_,_,ns,rfl,rfl,ho,ints_of_wellAll ns _ hall,hlen⟩
theorem post_true (l:OpenLaw) (args:List WData):l.row.toRowW.claim.post args (.bool true) args=true :=
  postW_of (r:=l.row.toRowW) (X:=(true == true))
    (show WShape.has [] (.bool true) .bool=true by first | rfl | decide | simp [WShape.has,WShape.arms,WShape.armsAll])
    (show (WTm.eq .res (.lit (.bool true))).value [] { args:=args,res:=some (.bool true),after:=args }=some (.bool (true == true)) from w_eq_bool (w_res rfl) w_lit) rfl
theorem attach_call {l:OpenLaw} {n:Nat} {q:Program} {loose:List Str} {XP:(Str->Option Value)->Heap->Prop} {YP:World->Heap->Prop} {d:DefRec}
    (hn:l.most=some n) (hdf:d.params.defaults=[])
    (call:∀ (w:World) (s₀ s₁:Shared) (mg mb:Str->Option Value) (fa:Addr) (o:Obj) (pm cd doc:Value) (a:Addr) (vs:List Value) (ns:List Int),
      Ground q loose [] XP w s₀ mg mb s₁.heap->YP w s₁.heap ->
      s₁.heap.get? fa=some o->o.data=.func (docDef d.name d.params d.body d.scope pm cd doc)->s₁.heap.CodeRec cd d.name->mg d.name=some (.ref fa) ->
      s₁.heap.get? a=some { cls:=.type "list",data:=.seq vs.toArray }->IntsAre vs ns->ns.length<=n->s₁.gens=#[] ->
      codeAny (model l.prog w) callerA (.call (.ref fa) ⟨[.ref a],[]⟩) (λ r s'=>r=.ok (.ret (.bool true))/\OldK s₁.heap s'.heap/\s'.os=s₁.os/\AllBare s'.gens) s₁) :
    WalkO q loose XP YP l.row.toRowW d [] (λ f vs=>PySem.call f vs):=by
  intro w s₀ s₁ mg mb G Y fa o pm cd doc dV kV ho hd hcd hD hmg hg args vals as hpre hlay hrd hwl hlo
  obtain rfl:dV=.none:=Dflts.none hD hdf
  obtain rfl:kV=.none:=Dflts.noKw hD
  obtain ⟨a,vs,ns,rfl,rfl,hobj,hints,hlen⟩:=script_of hn hpre hwl
  refine enter_call (codeAny_mono (call w s₀ s₁ mg mb fa o pm cd doc a vs ns G Y ho (fd_plain hd) hcd hmg hobj hints hlen hg) λ r s' hq=>?_)
  obtain ⟨rfl,h2,h3,h4⟩:=hq
  exact ⟨.inl ⟨.bool true,.bool true,[],rfl,λ _=>rfl,.bool true,post_true l _,λ _=>⟨List.Pairwise.nil,λ _ hm=>(nomatch hm)⟩⟩,h2,h3,h4⟩
section
variable {prog:Program} {w:World} {A:Around} {E:Value->Shared->Prop} {s:Shared} {K:Frag}
end
end Att
namespace L2
open PySem PySem.Spec PyProof.Rows
theorem vals_ints:∀ {vs:List Value} {ns:List Int},IntsAre vs ns->Vals (ns.map V.int) vs
  | _,_,.nil=>.nil
  | _,_,.cons n t h=>.cons ⟨t,rfl⟩ (vals_ints h)
end L2
namespace L2
open PySem PySem.Spec PyProof.Rows
end L2
namespace L2
open PySem PySem.Spec PyProof.Rows
noncomputable def defArgs (s:Stmt):Arguments:=match s with
  | .FunctionDef _ a _ _ _ _ _ _ _ _=>a
  | _=>{ posonlyargs:=[],args:=[],vararg:=none,kwonlyargs:=[],kw_defaults:=[],kwarg:=none,defaults:=[] }
noncomputable def defBody (s:Stmt):List Stmt:=match s with
  | .FunctionDef _ _ b _ _ _ _ _ _ _=>b
  | _=>[]
noncomputable def defScope (s:Stmt):Scope:=match s with
  | .FunctionDef _ _ _ _ _ _ sc _ _ _=>sc
  | _=>{ kind:=.function,names:=[],isGenerator:=false,isCoroutine:=false }
noncomputable abbrev E0:XK:=λ _ _ _=>False
structure Fun (K:PySem.W.Frag) (x qual:Str) (st:Stmt) (f:Addr) (fd:FuncData):Prop where
  ex:∃ (oc:Value) (od:Option Addr) (kV doc pm:Value) (an:Option Addr) (cdv ct:Value) (osl:Array (Option Value)),
    fd=PySem.W.fnOf x qual (defArgs st) (defBody st) (defScope st) .none kV doc pm an cdv ct/\K.lookup f=some ⟨oc,od,.func fd,osl⟩/\PySem.W.codeIn K cdv qual=true
  kp:PySem.W.keepIn K (.ref f)=true
section
variable {P:Program} {w:World} {K:PySem.W.Frag} {mg:Str->Option Value} {base:Heap}
theorem Fun.binds {x qual:Str} {st:Stmt} {f:Addr} {fd:FuncData} {ps:List Str} (F:Fun K x qual st f fd)
    (h:∀ (kV doc pm:Value) (an:Option Addr) (cdv ct:Value) (us:List Value),us.length=ps.length->bindArgs (PySem.W.fnOf x qual (defArgs st) (defBody st) (defScope st) .none kV doc pm an cdv ct) ⟨us,[]⟩=pure (ps.zip us)):Binds K fd ps []:=by
  obtain ⟨oc,od,kV,doc,pm,an,cdv,ct,osl,rfl,lk,hcd⟩:=F.ex
  exact .all (h kV doc pm an cdv ct)
theorem fun_mk {x qual:Str} {st:Stmt} {f:Addr} {oc:Value} {od an:Option Addr} {osl:Array (Option Value)} {kV doc pm cdv ct:Value} (l:K.lookup f=some ⟨oc,od,.func (PySem.W.fnOf x qual (defArgs st) (defBody st) (defScope st) .none kV doc pm an cdv ct),osl⟩)
    (c:PySem.W.codeIn K cdv qual=true) (k:PySem.W.keepIn K (.ref f)=true):Fun K x qual st f (PySem.W.fnOf x qual (defArgs st) (defBody st) (defScope st) .none kV doc pm an cdv ct):=⟨⟨oc,od,kV,doc,pm,an,cdv,ct,osl,rfl,l,c⟩,k⟩
end
section
variable {X:Cx}
end
theorem iteF {A B:Prop} (h:B):if false=true then A else B:=by
  rw [if_neg Bool.false_ne_true]
  exact h
theorem iteT {A B:Prop} (h:A):if true=true then A else B:=by
  rw [if_pos rfl]
  exact h
noncomputable def Same (H H':Hp):Prop:=∀ b o,H b=some o->H' b=some o
theorem Same.refl (H:Hp):Same H H:=λ _ _ h=>h
theorem Same.trans {H H1 H2:Hp} (a:Same H H1) (b:Same H1 H2):Same H H2:=λ c o h=>b c o (a c o h)
theorem Same.free {H H':Hp} (e:Same H H') {l:Addr} (h:H' l=Option.none):H l=Option.none:=by
  cases q:H l with
  | none=>rfl
  | some o =>
    rw [e l o q] at h
    cases h
theorem Same.seq {K:PySem.W.Frag} {H H':Hp} {a:Addr} {xs:List V} (e:Same H H') (h:SqL K H a xs):SqL K H' a xs:=by
  rcases h with (h | ⟨o,h⟩) | h
  · exact .inl (.inl (e _ _ h))
  · exact .inl (.inr ⟨o,e _ _ h⟩)
  · exact .inr h
end L2


namespace Wy
open PySem PySem.Spec PyProof.Rows L2
inductive D where
  | non | bl (b:Bool) | int (i:Int) | str (x:Str) | tup (xs:List D) | lst (xs:List D)
mutual
noncomputable def Den (K:PySem.W.Frag) (G:Hp):D->V->Prop
  | .non,v=>v=.non
  | .bl b,v=>v=.bl b
  | .int i,v=>v=.int i
  | .str x,v=>v=.str x
  | .tup ds,v=>∃ a vs,v=.ref a/\SqT K G a vs/\DenL K G ds vs
  | .lst ds,v=>∃ a vs,v=.ref a/\SqL K G a vs/\DenL K G ds vs
noncomputable def DenL (K:PySem.W.Frag) (G:Hp):List D->List V->Prop
  | [],vs=>vs=[]
  | d::ds,vs=>∃ v r,vs=v::r/\Den K G d v/\DenL K G ds r
end
theorem Same.seqT {K:PySem.W.Frag} {H H':Hp} {a:Addr} {xs:List V} (e:Same H H') (h:SqT K H a xs):SqT K H' a xs:=by
  rcases h with (h | ⟨o,h⟩) | h
  · exact .inl (.inl (e _ _ h))
  · exact .inl (.inr ⟨o,e _ _ h⟩)
  · exact .inr h
section
variable {K:PySem.W.Frag} {G G':Hp}
mutual
theorem Den.mono (e:Same G G'):(d:D)->(v:V)->Den K G d v->Den K G' d v
  | .non,_,h=>h
  | .bl _,_,h=>h
  | .int _,_,h=>h
  | .str _,_,h=>h
  | .tup ds,_,h=>by
    unfold Den at h ⊢
    obtain ⟨a,vs,e1,s,l⟩:=h
    exact ⟨a,vs,e1,Same.seqT e s,DenL.mono e ds vs l⟩
  | .lst ds,_,h=>by
    unfold Den at h ⊢
    obtain ⟨a,vs,e1,s,l⟩:=h
    exact ⟨a,vs,e1,e.seq s,DenL.mono e ds vs l⟩
theorem DenL.mono (e:Same G G'):(ds:List D)->(vs:List V)->DenL K G ds vs->DenL K G' ds vs
  | [],_,h=>by unfold DenL at h ⊢; exact h
  | d::ds,vs,h=>by
    unfold DenL at h ⊢
    obtain ⟨v,r,e1,h1,h2⟩:=h
    exact ⟨v,r,e1,Den.mono e d v h1,DenL.mono e ds r h2⟩
end
theorem Den.up {d:D} {v:V} (h:Den K G d v) (e:Same G G'):Den K G' d v:=Den.mono e d v h
theorem DenL.up {ds:List D} {vs:List V} (h:DenL K G ds vs) (e:Same G G'):DenL K G' ds vs:=DenL.mono e ds vs h
theorem denL_nil {vs:List V}:DenL K G [] vs↔vs=[]:=by unfold DenL; exact Iff.rfl
theorem denL_cons {d:D} {ds:List D} {vs:List V}:DenL K G (d::ds) vs↔∃ v r,vs=v::r/\Den K G d v/\DenL K G ds r:=by
  constructor
  · intro h; unfold DenL at h; exact h
  · intro h; unfold DenL; exact h
theorem den_tup {ds:List D} {v:V}:Den K G (.tup ds) v↔∃ a vs,v=.ref a/\SqT K G a vs/\DenL K G ds vs:=by
  constructor
  · intro h; unfold Den at h; exact h
  · intro h; unfold Den; exact h
theorem den_lst {ds:List D} {v:V}:Den K G (.lst ds) v↔∃ a vs,v=.ref a/\SqL K G a vs/\DenL K G ds vs:=by
  constructor
  · intro h; unfold Den at h; exact h
  · intro h; unfold Den; exact h
theorem DenL.one {d:D} {v:V} (h:Den K G d v):DenL K G [d] [v]:=denL_cons.mpr ⟨v,[],rfl,h,denL_nil.mpr rfl⟩
theorem DenL.length:∀ {ds:List D} {vs:List V},DenL K G ds vs->ds.length=vs.length
  | [],vs,h=>by rw [denL_nil.mp h]; rfl
  | d::ds,vs,h=>by
    obtain ⟨v,r,rfl,_,h2⟩:=denL_cons.mp h
    simp [DenL.length h2]
theorem DenL.get:∀ {ds:List D} {vs:List V} {i:Nat} {d:D},DenL K G ds vs->ds[i]?=some d->∃ v,vs[i]?=some v/\Den K G d v
  | [],_,_,_,_,e=>by simp at e
  | d::ds,vs,0,x,h,e=>by
    obtain ⟨v,r,rfl,h1,_⟩:=denL_cons.mp h
    simp at e; subst e
    exact ⟨v,rfl,h1⟩
  | d::ds,vs,i + 1,x,h,e=>by
    obtain ⟨v,r,rfl,_,h2⟩:=denL_cons.mp h
    obtain ⟨u,e1,e2⟩:=DenL.get (i:=i) (d:=x) h2 (by simpa using e)
    exact ⟨u,by simpa using e1,e2⟩
theorem DenL.append:∀ {ds es:List D} {vs us:List V},DenL K G ds vs->DenL K G es us->DenL K G (ds++es) (vs++us)
  | [],_,vs,_,h,h'=>by rw [denL_nil.mp h]; exact h'
  | d::ds,es,vs,us,h,h'=>by
    obtain ⟨v,r,rfl,h1,h2⟩:=denL_cons.mp h
    exact denL_cons.mpr ⟨v,r++us,rfl,h1,DenL.append h2 h'⟩
theorem DenL.take:∀ {ds:List D} {vs:List V} (n:Nat),DenL K G ds vs->DenL K G (ds.take n) (vs.take n)
  | _,_,0,_=>by rw [List.take_zero,List.take_zero]; exact denL_nil.mpr rfl
  | [],vs,n + 1,h=>by rw [denL_nil.mp h]; exact denL_nil.mpr (by simp)
  | d::ds,vs,n + 1,h=>by
    obtain ⟨v,r,rfl,h1,h2⟩:=denL_cons.mp h
    exact denL_cons.mpr ⟨v,r.take n,rfl,h1,DenL.take n h2⟩
theorem DenL.drop:∀ {ds:List D} {vs:List V} (n:Nat),DenL K G ds vs->DenL K G (ds.drop n) (vs.drop n)
  | _,_,0,h=>h
  | [],vs,n + 1,h=>by rw [denL_nil.mp h]; exact denL_nil.mpr (by simp)
  | d::ds,vs,n + 1,h=>by
    obtain ⟨v,r,rfl,h1,h2⟩:=denL_cons.mp h
    exact DenL.drop n h2
theorem DenL.dropLast {ds:List D} {vs:List V} (h:DenL K G ds vs):DenL K G ds.dropLast vs.dropLast:=by
  rw [List.dropLast_eq_take,List.dropLast_eq_take,h.length]
  exact h.take _
end
noncomputable def CodeAt (c:Addr) (q:Str):Heap->Prop:=λ h=>h.CodeRec (.ref c) q
noncomputable def TblOk (G:Hp) (ps:Array Value):Prop:=TriplesOk ps.toList/\∀ pos v,codeAmong pos ps.toList=some v->∃ c q,v=.ref c/\G c=some (.ext (CodeAt c q))
noncomputable def isTbl:HO->Bool
  | .tbl _=>true
  | _=>false
theorem TblOk.mono {G G':Hp} {ps:Array Value} (t:TblOk G ps) (h:Same G G'):TblOk G' ps :=
  ⟨t.1,λ pos v e=>let ⟨c,q,e1,e2⟩:=t.2 pos v e; ⟨c,q,e1,h _ _ e2⟩⟩
structure Gro (H H':Hp):Prop where
  nt:∀ a o,H a=some o->isTbl o=false->H' a=some o
  te:∀ a ps,H a=some (.tbl ps)->∃ ps',H' a=some (.tbl ps')
section
variable {H H' H'':Hp} {K:PySem.W.Frag}
theorem Gro.of (e:Same H H'):Gro H H':=⟨λ a o h _=>e a o h,λ a ps h=>⟨ps,e _ _ h⟩⟩
theorem Gro.refl:Gro H H:=.of (Same.refl _)
theorem Gro.trans (a:Gro H H') (b:Gro H' H''):Gro H H'':=⟨λ c o h n=>b.nt c o (a.nt c o h n) n,λ c ps h=>by
  obtain ⟨p1,h1⟩:=a.te c ps h
  exact b.te c p1 h1⟩
theorem Gro.lst (g:Gro H H') {a:Addr} {vs:List V} (h:H a=some (.lst vs)):H' a=some (.lst vs):=g.nt _ _ h rfl
theorem Gro.rd (g:Gro H H') {a:Addr} {u:HO} (n:isTbl u=false) (h:Rd H a u):Rd H' a u:=by
  rcases h with h | ⟨o,h⟩
  · exact .inl (g.nt _ _ h n)
  · exact .inr ⟨o,g.nt _ _ h rfl⟩
theorem Gro.seq (g:Gro H H') {a:Addr} {xs:List V} (h:SqL K H a xs):SqL K H' a xs:=by
  rcases h with h | h
  · exact .inl (g.rd rfl h)
  · exact .inr h
theorem Gro.ne (g:Gro H H') {a:Addr} (h:H a≠none):H' a≠none:=by
  cases q:H a with
  | none=>exact absurd q h
  | some o =>
    cases z:isTbl o with
    | false=>rw [g.nt a o q z]; exact λ w=>nomatch w
    | true =>
      cases o <;> first | cases z | skip
      obtain ⟨ps',e⟩:=g.te a _ q
      rw [e]; exact λ w=>nomatch w
theorem Gro.free (g:Gro H H') {a:Addr} (h:H' a=none):H a=none:=by
  cases q:H a with
  | none=>rfl
  | some o=>exact absurd h (g.ne (by rw [q]; exact λ w=>nomatch w))
end
noncomputable def Tbs (H H' G':Hp):Prop:=∀ a ps,H a=some (.tbl ps)->∃ ps',H' a=some (.tbl ps')/\∀ Gx,Same G' Gx->TblOk Gx ps->TblOk Gx ps'
theorem Tbs.of {H H' G':Hp} (e:Same H H'):Tbs H H' G':=λ a ps h=>⟨ps,e _ _ h,λ _ _ t=>t⟩
theorem Tbs.trans {H H1 G1 H2 G2:Hp} (a:Tbs H H1 G1) (b:Tbs H1 H2 G2) (g:Same G1 G2):Tbs H H2 G2:=λ c ps h=>by
  obtain ⟨p1,h1,t1⟩:=a c ps h
  obtain ⟨p2,h2,t2⟩:=b c p1 h1
  exact ⟨p2,h2,λ Gx e t=>t2 Gx e (t1 Gx (g.trans e) t)⟩
structure Ext (H G H' G':Hp):Prop where
  gg:Same G G'
  gh:Same G' H'
  hh:Gro H H'
  fr:∀ a,H a≠none->G' a=G a
  tb:Tbs H H' G'
theorem Ext.refl {H G:Hp} (h:Same G H):Ext H G H G:=⟨Same.refl _,h,Gro.refl,λ _ _=>rfl,.of (Same.refl _)⟩
theorem some_ne {α:Type} {o:Option α} {x:α} (h:o=some x):o≠none:=by rw [h]; exact λ z=>nomatch z
theorem Ext.trans {H G H1 G1 H2 G2:Hp} (a:Ext H G H1 G1) (b:Ext H1 G1 H2 G2):Ext H G H2 G2 :=
  ⟨a.gg.trans b.gg,b.gh,a.hh.trans b.hh,λ c h=>(b.fr c (a.hh.ne h)).trans (a.fr c h),a.tb.trans b.tb b.gg⟩
theorem same_upd {H:Hp} {p:Addr} (h:H p=none) (o:HO):Same H (upd H p o):=λ b u q=>by rw [upd_ne (ne_of_none q h)]; exact q
theorem Ext.alloc {H G:Hp} {p:Addr} (h:Same G H) (hp:H p=none) (o:HO):Ext H G (upd H p o) (upd G p o) where
  gg:=same_upd (h.free hp) o
  gh:=λ b u q=>by
    by_cases e:b=p
    · subst e; rw [upd_same] at q ⊢; exact q
    · rw [upd_ne e] at q ⊢; exact h b u q
  hh:=.of (same_upd hp o)
  fr:=λ a ha=>upd_ne (λ e=>ha (by rw [e]; exact hp))
  tb:=.of (same_upd hp o)
theorem Ext.own {H G:Hp} {p:Addr} (h:Same G H) (hp:H p=none) (o:HO):Ext H G (upd H p o) G :=
  ⟨Same.refl _,h.trans (same_upd hp o),.of (same_upd hp o),λ _ _=>rfl,.of (same_upd hp o)⟩
theorem Ext.take {H G H' G':Hp} {p:Addr} {o:HO} (e:Ext H G H' G') (hp:H p=none) (h':H' p=some o) (g':G' p=none):Ext H G H' (upd G' p o) where
  gg:=e.gg.trans (same_upd g' o)
  gh:=λ b u q=>by
    by_cases z:b=p
    · subst z; rw [upd_same] at q; rw [h']; exact q
    · rw [upd_ne z] at q; exact e.gh b u q
  hh:=e.hh
  fr:=λ a ha=>(upd_ne (λ z=>ha (by rw [z]; exact hp))).trans (e.fr a ha)
  tb:=λ a ps h=>let ⟨ps',h1,t⟩:=e.tb a ps h; ⟨ps',h1,λ Gx q z=>t Gx ((same_upd g' o).trans q) z⟩
mutual
noncomputable def hk:Nat->D->Bool
  | _,.int _=>true
  | _,.str _=>true
  | _,.non=>true
  | n + 1,.tup ds=>hkL n ds
  | _,_=>false
noncomputable def hkL:Nat->List D->Bool
  | _,[]=>true
  | n,d::ds=>hk n d&&hkL n ds
end
mutual
noncomputable def hD (w:World):D->Int
  | .int i=>hashInt i
  | .str x=>hashStr w x
  | .non=>4238894112
  | .tup ds=>reduceHash (Builtin.Tuple.tupleHashOf (hDL w ds))
  | _=>0
noncomputable def hDL (w:World):List D->List Int
  | []=>[]
  | d::ds=>hD w d::hDL w ds
end
noncomputable def EntsOk (w:World):List (D×D)->List (V×V)->List DictEntry->Prop
  | [],[],[]=>True
  | p::ps,q::qs,e::es=>(e.hash=hD w p.1/\RelV q.1 e.key/\RelV q.2 e.val)/\EntsOk w ps qs es
  | _,_,_=>False
noncomputable def DenK (K:PySem.W.Frag) (G:Hp):List (D×D)->List (V×V)->Prop
  | [],[]=>True
  | p::ps,q::qs=>(Den K G p.1 q.1/\Den K G p.2 q.2)/\DenK K G ps qs
  | _,_=>False
theorem DenK.up {K:PySem.W.Frag} {G G':Hp} (e:Same G G'):∀ {kvs:List (D×D)} {es:List (V×V)},DenK K G kvs es->DenK K G' kvs es
  | [],[],_=>trivial
  | _::_,_::_,⟨⟨a,b⟩,r⟩=>⟨⟨a.up e,b.up e⟩,r.up e⟩
  | [],_::_,h=>h.elim
  | _::_,[],h=>h.elim
noncomputable def KOk (kvs:List (D×D)):Prop:=(kvs.map (·.1)).Nodup/\∀ p∈kvs,hk 8 p.1=true
noncomputable def DctAt (w:World) (a:Addr) (kvs:List (D×D)) (es:List (V×V)):Heap->Prop:=λ h=>(a == sysModules)=false/\KOk kvs/\kvs.length<=1000000 /\
  ∃ o xs ep,h.get? a=some o/\o.ExactDict/\o.data=.dict xs ep/\EntsOk w kvs es xs.toList
inductive Sl where
  | un | val (d:D) | own (xs:List D) | exc (c:Str) | fn (a:Addr) (φ:Hp->Prop) | par (a:Addr) (xs:List D) | dic (w:World) (kvs:List (D×D)) | vdi (w:World) (kvs:List (D×D))
noncomputable def Sl.mu:Sl->Bool
  | .own _=>true
  | .par _ _=>true
  | .dic _ _=>true
  | _=>false
noncomputable def Sl.cont:Sl->Option (List D)
  | .own xs=>some xs
  | .par _ xs=>some xs
  | _=>none
noncomputable def Sl.put (x:Sl) (ys:List D):Sl:=match x with
  | .own _=>.own ys
  | .par a _=>.par a ys
  | y=>y
noncomputable def ExcIs (a C:Addr):Heap->Prop:=λ h=>∃ o,h.get? a=some o/\o.cls=.ref C
noncomputable def XcIs (K:PySem.W.Frag) (G:Hp) (c:Str) (v:V):Prop:=∃ a C,v=.ref a/\PySem.W.nsIn K mainGlobals c=some (some (.ref C))/\G a=some (.ext (ExcIs a C))
theorem XcIs.up {K:PySem.W.Frag} {G G':Hp} {c:Str} {v:V} (h:XcIs K G c v) (e:Same G G'):XcIs K G' c v:=by
  obtain ⟨a,C,e1,e2,e3⟩:=h
  exact ⟨a,C,e1,e2,e _ _ e3⟩
noncomputable abbrev Ga:=List Sl
noncomputable def LAMS:List Str:=["truths","renamed","telling","judged"]
noncomputable def TabIn (K:PySem.W.Frag) (H G:Hp):Prop:=∀ x∈LAMS,∀ c P,PySem.W.tabIn K x=some (c,P)->G P=none/\∃ ps,H P=some (.tbl ps)/\TblOk G ps
theorem Ext.tab {K:PySem.W.Frag} {H G H' G':Hp} (e:Ext H G H' G') (t:TabIn K H G):TabIn K H' G':=λ x hx c P h=>by
  obtain ⟨g,ps,h1,h2⟩:=t x hx c P h
  obtain ⟨ps',h3,h4⟩:=e.tb P ps h1
  exact ⟨(e.fr P (some_ne h1)).trans g,ps',h3,h4 _ (Same.refl _) (h2.mono e.gg)⟩
theorem TabIn.updL {K:PySem.W.Frag} {H G:Hp} {a:Addr} {vs us:List V} (ha:H a=some (.lst vs)) (t:TabIn K H G):TabIn K (upd H a (.lst us)) G:=λ x hx c P h=>by
  obtain ⟨g,ps,h1,h2⟩:=t x hx c P h
  exact ⟨g,ps,by rw [upd_ne (λ e=>by rw [e,ha] at h1; cases h1)]; exact h1,h2⟩
theorem TabIn.updG {K:PySem.W.Frag} {H G:Hp} {a:Addr} {vs:List V} {o:HO} (ha:H a=some (.lst vs)) (ga:G a=none) (t:TabIn K H G):TabIn K H (upd G a o):=λ x hx c P h=>by
  obtain ⟨g,ps,h1,h2⟩:=t x hx c P h
  exact ⟨by rw [upd_ne (λ e=>by rw [e,ha] at h1; cases h1)]; exact g,ps,h1,h2.mono (same_upd ga o)⟩
noncomputable def SlOk (K:PySem.W.Frag) (H₀ H G:Hp):Sl->Option (Option V)->Prop
  | .un,_=>True
  | .val d,o=>∃ v,o=some (some v)/\Den K G d v
  | .own xs,o=>∃ a vs,o=some (some (.ref a))/\H a=some (.lst vs)/\H₀ a=none/\G a=none/\DenL K G xs vs
  | .exc c,o=>∃ v,o=some (some v)/\XcIs K G c v
  | .fn a φ,o=>o=some (some (.ref a))/\φ G/\∀ G1 G2,Same G1 G2->φ G1->φ G2
  | .par a xs,o=>o=some (some (.ref a))/\∃ vs,H a=some (.lst vs)/\H₀ a=none/\G a=none/\DenL K G xs vs
  | .dic w kvs,o=>∃ a es,o=some (some (.ref a))/\H a=some (.ext (DctAt w a kvs es))/\H₀ a=none/\G a=none/\DenK K G kvs es
  | .vdi w kvs,o=>∃ a es,o=some (some (.ref a))/\H a=some (.ext (DctAt w a kvs es))/\H₀ a≠none/\DenK K G kvs es
structure Rep (K:PySem.W.Frag) (H₀ G₀:Hp) (Γ:Ga) (σ:L2.St) (H G:Hp):Prop where
  ex:Ext H₀ G₀ H G
  tab:TabIn K H G
  ln:Γ.length=σ.length
  all:∀ (i:Nat) x,Γ[i]?=some x->SlOk K H₀ H G x σ[i]?
  di:∀ (i j:Nat) x y a,Γ[i]?=some x->Γ[j]?=some y->x.mu=true->y.mu=true->σ[i]?=some (some (V.ref a))->σ[j]?=some (some (V.ref a))->i=j
section
variable {K:PySem.W.Frag} {H₀ G₀ H G H' G':Hp} {Γ:Ga} {σ:L2.St}
theorem Rep.gh (R:Rep K H₀ G₀ Γ σ H G):Same G H:=R.ex.gh
theorem Rep.vl (R:Rep K H₀ G₀ Γ σ H G) (i:Nat) (d:D) (h:Γ[i]?=some (.val d)):∃ v,σ[i]?=some (some v)/\Den K G d v:=R.all i _ h
theorem Rep.ow (R:Rep K H₀ G₀ Γ σ H G) (i:Nat) (xs:List D) (h:Γ[i]?=some (.own xs)):∃ a vs,σ[i]?=some (some (.ref a))/\H a=some (.lst vs)/\H₀ a=none/\G a=none/\DenL K G xs vs:=R.all i _ h
theorem Rep.xc (R:Rep K H₀ G₀ Γ σ H G) (i:Nat) (c:Str) (h:Γ[i]?=some (.exc c)):∃ v,σ[i]?=some (some v)/\XcIs K G c v:=R.all i _ h
theorem Rep.fr (R:Rep K H₀ G₀ Γ σ H G) (i:Nat) (a:Addr) (φ:Hp->Prop) (h:Γ[i]?=some (.fn a φ)):σ[i]?=some (some (.ref a))/\φ G/\∀ G1 G2,Same G1 G2->φ G1->φ G2:=R.all i _ h
theorem Rep.mo (R:Rep K H₀ G₀ Γ σ H G) {i:Nat} {x:Sl} {xs:List D} (h:Γ[i]?=some x) (hc:x.cont=some xs):∃ a vs,σ[i]?=some (some (.ref a))/\H a=some (.lst vs)/\H₀ a=none/\G a=none/\DenL K G xs vs:=by
  have q:=R.all i x h
  cases x <;> first | cases hc | skip
  · exact q
  · obtain ⟨q1,vs,q2⟩:=q
    exact ⟨_,vs,q1,q2⟩
theorem Sl.mu_of {x:Sl} {xs:List D} (h:x.cont=some xs):x.mu=true:=by cases x <;> first | rfl | cases h
theorem Rep.at (R:Rep K H₀ G₀ Γ σ H G) {i:Nat} {x:Sl} (h:Γ[i]?=some x) (hm:x.mu=true):∃ a o,σ[i]?=some (some (.ref a))/\H a=some o/\H₀ a=none/\G a=none:=by
  have q:=R.all i x h
  cases x <;> first | cases hm | skip
  · obtain ⟨a,vs,e1,e2,e3,e4,_⟩:=q
    exact ⟨a,_,e1,e2,e3,e4⟩
  · obtain ⟨q1,vs,e2,e3,e4,_⟩:=q
    exact ⟨_,_,q1,e2,e3,e4⟩
  · obtain ⟨a,vs,e1,e2,e3,e4,_⟩:=q
    exact ⟨a,_,e1,e2,e3,e4⟩
theorem SlOk.after {x:Sl} {o:Option (Option V)} (h:SlOk K H₀ H G x o) (e:Ext H G H' G'):SlOk K H₀ H' G' x o:=by
  cases x with
  | un=>trivial
  | val d=>obtain ⟨v,e1,e2⟩:=h; exact ⟨v,e1,e2.up e.gg⟩
  | own xs =>
    obtain ⟨a,vs,e1,e2,e3,e4,e5⟩:=h
    exact ⟨a,vs,e1,e.hh.lst e2,e3,(e.fr a (some_ne e2)).trans e4,e5.up e.gg⟩
  | exc c=>obtain ⟨v,e1,e2⟩:=h; exact ⟨v,e1,e2.up e.gg⟩
  | fn a φ=>exact ⟨h.1,h.2.2 _ _ e.gg h.2.1,h.2.2⟩
  | par a xs =>
    obtain ⟨e1,vs,e2,e3,e4,e5⟩:=h
    exact ⟨e1,vs,e.hh.lst e2,e3,(e.fr a (some_ne e2)).trans e4,e5.up e.gg⟩
  | dic w kvs =>
    obtain ⟨a,es,e1,e2,e3,e4,e5⟩:=h
    exact ⟨a,es,e1,e.hh.nt _ _ e2 rfl,e3,(e.fr a (some_ne e2)).trans e4,e5.up e.gg⟩
  | vdi w kvs =>
    obtain ⟨a,es,e1,e2,e3,e5⟩:=h
    exact ⟨a,es,e1,e.hh.nt _ _ e2 rfl,e3,e5.up e.gg⟩
theorem Rep.after (R:Rep K H₀ G₀ Γ σ H G) (e:Ext H G H' G'):Rep K H₀ G₀ Γ σ H' G':=⟨R.ex.trans e,e.tab R.tab,R.ln,λ i x h=>(R.all i x h).after e,R.di⟩
theorem get_set_self {α:Type} {l:List α} {i:Nat} {x y:α} (h:(l.set i x)[i]?=some y):y=x:=by
  rw [List.getElem?_set] at h
  simp at h
  exact h.2.symm
theorem set_at {α:Type} {l:List α} {i j:Nat} {x y:α} (h:(l.set i x)[j]?=some y):(j=i/\y=x/\i < l.length)∨(i≠j/\l[j]?=some y):=by
  by_cases e:i=j
  · subst e
    have hi:=(List.getElem?_eq_some_iff.mp h).1
    rw [List.length_set] at hi
    exact .inl ⟨rfl,get_set_self h,hi⟩
  · rw [List.getElem?_set_ne e] at h
    exact .inr ⟨e,h⟩
theorem Rep.putS (R:Rep K H₀ G₀ Γ σ H G) (i:Nat) {x:Sl} {o:Option V} (h:SlOk K H₀ H G x (some o))
    (nw:x.mu=true->∀ (j:Nat) y a,j≠i->Γ[j]?=some y->y.mu=true->o=some (V.ref a)->σ[j]?≠some (some (V.ref a))):Rep K H₀ G₀ (Γ.set i x) (σ.set i o) H G where
  ex:=R.ex
  tab:=R.tab
  ln:=by rw [List.length_set,List.length_set]; exact R.ln
  all:=λ j y q=>by
    rcases set_at q with ⟨rfl,rfl,hi⟩ | ⟨ne,q⟩
    · rw [List.getElem?_set_self (by rw [<- R.ln]; exact hi)]; exact h
    · rw [List.getElem?_set_ne ne]; exact R.all j y q
  di:=λ j k y z a q1 q2 m1 m2 s1 s2=>by
    rcases set_at q1 with ⟨e1,e2,hi⟩ | ⟨n1,r1⟩
    · rcases set_at q2 with ⟨e3,e4,_⟩ | ⟨n2,r2⟩
      · exact e1.trans e3.symm
      · subst e1 e2
        rw [List.getElem?_set_ne n2] at s2
        rw [List.getElem?_set_self (by rw [<- R.ln]; exact hi)] at s1
        exact absurd s2 (nw m1 k z a (Ne.symm n2) r2 m2 (Option.some.inj s1))
    · rw [List.getElem?_set_ne n1] at s1
      rcases set_at q2 with ⟨e3,e4,hi⟩ | ⟨n2,r2⟩
      · subst e3 e4
        rw [List.getElem?_set_self (by rw [<- R.ln]; exact hi)] at s2
        exact absurd s1 (nw m2 j y a (Ne.symm n1) r1 m1 (Option.some.inj s2))
      · rw [List.getElem?_set_ne n2] at s2
        exact R.di j k y z a r1 r2 m1 m2 s1 s2
theorem Rep.setV (R:Rep K H₀ G₀ Γ σ H G) (i:Nat) {d:D} {v:V} (h:Den K G d v):Rep K H₀ G₀ (Γ.set i (.val d)) (σ.set i (some v)) H G :=
  R.putS i (x:=.val d) ⟨v,rfl,h⟩ λ z=>nomatch z
theorem Rep.setO (R:Rep K H₀ G₀ Γ σ H G) (i:Nat) {xs:List D} {a:Addr} {vs:List V} (h:H a=some (.lst vs)) (h0:H₀ a=none) (hg:G a=none) (hd:DenL K G xs vs)
    (nw:∀ (j:Nat) y,j≠i->Γ[j]?=some y->y.mu=true->σ[j]?≠some (some (.ref a))):Rep K H₀ G₀ (Γ.set i (.own xs)) (σ.set i (some (.ref a))) H G :=
  R.putS i (x:=.own xs) ⟨a,vs,rfl,h,h0,hg,hd⟩ λ _ j y b hj hy hm e=>by cases e; exact nw j y hj hy hm
theorem Rep.setX (R:Rep K H₀ G₀ Γ σ H G) (i:Nat) {c:Str} {v:V} (h:XcIs K G c v):Rep K H₀ G₀ (Γ.set i (.exc c)) (σ.set i (some v)) H G :=
  R.putS i (x:=.exc c) ⟨v,rfl,h⟩ λ z=>nomatch z
theorem Rep.setU (R:Rep K H₀ G₀ Γ σ H G) (i:Nat):Rep K H₀ G₀ (Γ.set i .un) (σ.set i none) H G:=R.putS i (x:=.un) trivial λ z=>nomatch z
theorem Rep.mutG (R:Rep K H₀ G₀ Γ σ H G) {i:Nat} {x:Sl} {xs ys:List D} {a:Addr} {us:List V} (hi:Γ[i]?=some x) (hx:x.cont=some xs) (hs:σ[i]?=some (some (.ref a))) (hd:DenL K G ys us) :
    Rep K H₀ G₀ (Γ.set i (x.put ys)) σ (upd H a (.lst us)) G:=by
  obtain ⟨a',vs,e1,e2,e3,e4,e5⟩:=R.mo hi hx
  rw [hs] at e1
  cases e1
  have gne:∀ b o,G b=some o->b≠a:=λ b o q z=>by rw [z,e4] at q; cases q
  have hne:∀ b o,H₀ b=some o->b≠a:=λ b o q z=>by rw [z,e3] at q; cases q
  have pm:(x.put ys).mu=true:=by cases x <;> first | rfl | cases hx
  have tbl:∀ b ps,H₀ b=some (.tbl ps)->∃ ps',upd H a (.lst us) b=some (.tbl ps')/\∀ Gx,Same G Gx->TblOk Gx ps->TblOk Gx ps':=λ b ps q=>by
    obtain ⟨ps',h1,h2⟩:=R.ex.tb b ps q
    exact ⟨ps',by rw [upd_ne (hne b _ q)]; exact h1,h2⟩
  refine ⟨⟨R.ex.gg,λ b o q=>?_,⟨λ b o q n=>?_,λ b ps q=>let ⟨ps',h,_⟩:=tbl b ps q; ⟨ps',h⟩⟩,R.ex.fr,tbl⟩,R.tab.updL e2,by rw [List.length_set]; exact R.ln,λ j y q=>?_,λ j k y z b q1 q2 m1 m2 s1 s2=>?_⟩
  · rw [upd_ne (gne b o q)]; exact R.ex.gh b o q
  · rw [upd_ne (hne b o q)]; exact R.ex.hh.nt b o q n
  · rcases set_at q with ⟨rfl,rfl,_⟩ | ⟨ne,q⟩
    · cases x with
      | own zs=>exact ⟨a,us,hs,upd_same,e3,e4,hd⟩
      | par b zs =>
        have:=(R.all j _ hi).1
        rw [hs] at this
        cases this
        exact ⟨hs,us,upd_same,e3,e4,hd⟩
      | _=>cases hx
    · have old:=R.all j y q
      have nb:∀ b,y.mu=true->σ[j]?=some (some (V.ref b))->b≠a:=λ b hm hb z=>by
        subst z
        exact ne (R.di i j _ _ b hi q (Sl.mu_of hx) hm hs hb)
      cases y with
      | un=>trivial
      | val d=>exact old
      | exc c=>exact old
      | fn c φ=>exact old
      | own zs =>
        obtain ⟨b,ws,f1,f2,f3,f4,f5⟩:=old
        exact ⟨b,ws,f1,by rw [upd_ne (nb b rfl f1)]; exact f2,f3,f4,f5⟩
      | par b zs =>
        obtain ⟨f1,ws,f2,f3,f4,f5⟩:=old
        exact ⟨f1,ws,by rw [upd_ne (nb b rfl f1)]; exact f2,f3,f4,f5⟩
      | dic w kvs =>
        obtain ⟨b,ws,f1,f2,f3,f4,f5⟩:=old
        exact ⟨b,ws,f1,by rw [upd_ne (nb b rfl f1)]; exact f2,f3,f4,f5⟩
      | vdi w kvs =>
        obtain ⟨b,ws,f1,f2,f3,f5⟩:=old
        exact ⟨b,ws,f1,by rw [upd_ne (λ z=>f3 (by rw [z]; exact e3))]; exact f2,f3,f5⟩
  · have o1:∀ (j:Nat) y,(Γ.set i (x.put ys))[j]?=some y->y.mu=true->∃ y',Γ[j]?=some y'/\y'.mu=true:=λ j y q hm=>by
      rcases set_at q with ⟨rfl,rfl,_⟩ | ⟨ne,q⟩
      · exact ⟨_,hi,Sl.mu_of hx⟩
      · exact ⟨_,q,hm⟩
    obtain ⟨z1,r1,r1'⟩:=o1 j y q1 m1
    obtain ⟨z2,r2,r2'⟩:=o1 k z q2 m2
    exact R.di j k _ _ b r1 r2 r1' r2' s1 s2
theorem Rep.mut (R:Rep K H₀ G₀ Γ σ H G) {i:Nat} {xs ys:List D} {a:Addr} {us:List V} (hi:Γ[i]?=some (.own xs)) (hs:σ[i]?=some (some (.ref a))) (hd:DenL K G ys us) :
    Rep K H₀ G₀ (Γ.set i (.own ys)) σ (upd H a (.lst us)) G:=R.mutG hi rfl hs hd
theorem Rep.weak (R:Rep K H₀ G₀ Γ σ H G) {Γ':Ga} (hl:Γ'.length=Γ.length) (h:∀ (i:Nat) x,Γ'[i]?=some x->x=.un∨Γ[i]?=some x):Rep K H₀ G₀ Γ' σ H G where
  ex:=R.ex
  tab:=R.tab
  ln:=hl.trans R.ln
  all:=λ i x q=>by
    rcases h i _ q with z | z
    · subst z; trivial
    · exact R.all i x z
  di:=λ i j x y a q1 q2 m1 m2=>by
    rcases h i _ q1 with z | z
    · subst z; cases m1
    · rcases h j _ q2 with z' | z'
      · subst z'; cases m2
      · exact R.di i j x y a z z' m1 m2
end
end Wy


namespace Wy
open PySem PySem.Spec PyProof.Rows L2
theorem nr {α:Type} {a b:α} (h:a=b):a=b:=h
inductive R (α:Type) where
  | ok (a:α) | ex (c:Str) | no
namespace R
variable {α β:Type}
noncomputable def bind (x:R α) (f:α->R β):R β:=match x with
  | .ok a=>f a
  | .ex c=>.ex c
  | .no=>.no
noncomputable def want (x:R α) (E:Str->Prop) (P:α->Prop):Prop:=match x with
  | .ok a=>P a
  | .ex c=>E c
  | .no=>False
noncomputable def ofO (o:Option α):R α:=match o with
  | some a=>.ok a
  | none=>.no
@[simp] theorem bind_ok (a:α) (f:α->R β):(R.ok a).bind f=f a:=nr rfl
@[simp] theorem bind_no (f:α->R β):(R.no:R α).bind f=.no:=nr rfl
@[simp] theorem ofO_some (a:α):ofO (some a)=.ok a:=nr rfl
theorem _root_.Wy.wImp {x:R α} {E E':Str->Prop} {P P':α->Prop} (w:x.want E P) (he:∀ c,E c->E' c) (h:∀ a,P a->P' a):x.want E' P':=by
  cases x with
  | ok a=>exact h a w
  | ex c=>exact he c w
  | no=>exact w
theorem _root_.Wy.wStep {x:R α} {f:α->R β} {E E':Str->Prop} {P:β->Prop} {P':α->Prop} (w:(x.bind f).want E P) (he:∀ c,E c->E' c) (h:∀ a,(f a).want E P->P' a):x.want E' P':=by
  cases x with
  | ok a=>exact h a w
  | ex c=>exact he c w
  | no=>exact w
theorem _root_.Wy.wOfO {o:Option α} {E:Str->Prop} {P:α->Prop} (w:(ofO o).want E P):∃ a,o=some a/\P a:=by
  cases o with
  | some a=>exact ⟨a,rfl,w⟩
  | none=>exact w.elim
theorem _root_.Wy.wOfOb {o:Option α} {f:α->R β} {E:Str->Prop} {P:β->Prop} (w:((ofO o).bind f).want E P):∃ a,o=some a/\(f a).want E P:=by
  cases o with
  | some a=>exact ⟨a,rfl,w⟩
  | none=>exact w.elim
end R
noncomputable def R.calm {α:Type} (x:R α):R α:=match x with
  | .ex _=>.no
  | r=>r
theorem calm_ok {α:Type} {x:R α} {a:α} (h:x.calm=.ok a):x=.ok a:=by
  cases x with
  | ok b=>exact h
  | ex c=>cases h
  | no=>cases h
@[simp] theorem calm_of_ok {α:Type} (a:α):(R.ok a).calm=.ok a:=nr rfl
section
variable {K:PySem.W.Frag} {G:Hp}
theorem den_non:Den K G .non .non:=by unfold Den; rfl
theorem den_bl {b:Bool}:Den K G (.bl b) (.bl b):=by unfold Den; rfl
theorem den_int {i:Int}:Den K G (.int i) (.int i):=by unfold Den; rfl
theorem den_str {x:Str}:Den K G (.str x) (.str x):=by unfold Den; rfl
theorem den_nonE {v:V} (h:Den K G .non v):v=.non:=by unfold Den at h; exact h
theorem den_blE {b:Bool} {v:V} (h:Den K G (.bl b) v):v=.bl b:=by unfold Den at h; exact h
theorem den_intE {i:Int} {v:V} (h:Den K G (.int i) v):v=.int i:=by unfold Den at h; exact h
theorem den_strE {x:Str} {v:V} (h:Den K G (.str x) v):v=.str x:=by unfold Den at h; exact h
end
noncomputable abbrev XP:=Str->L2.St->Hp->Hp->Prop
noncomputable abbrev XP0:XP:=λ _ _ _ _=>False
noncomputable def exAt (W:XP) (σ:L2.St) (H G:Hp):Str->Prop:=λ c=>∀ H' G',Ext H G H' G'->W c σ H' G'
theorem exAt.up {W:XP} {σ:L2.St} {H G H1 G1:Hp} {c:Str} (h:exAt W σ H G c) (e:Ext H G H1 G1):exAt W σ H1 G1 c:=λ H' G' e'=>h H' G' (e.trans e')
noncomputable def Tells (K:PySem.W.Frag) (W:XP) (t:TE) (f:Ga->R D):Prop :=
  ∀ (H₀ G₀:Hp) (Γ:Ga) (σ:L2.St) (H G:Hp),Rep K H₀ G₀ Γ σ H G->∀ Q:VK,(f Γ).want (exAt W σ H G) (λ d=>∀ v H' G',Ext H G H' G'->Den K G' d v->Q v H')->t σ H Q
noncomputable def EvD (X:Cx) (W:XP) (e:Expr) (f:Ga->R D):Prop:=∃ t,PE X e t/\Tells X.K W t f
noncomputable def TellsL (K:PySem.W.Frag) (W:XP) (t:TA) (f:Ga->R (List D)):Prop :=
  ∀ (H₀ G₀:Hp) (Γ:Ga) (σ:L2.St) (H G:Hp),Rep K H₀ G₀ Γ σ H G->∀ Q:List V->Hp->Prop,(f Γ).want (exAt W σ H G) (λ ds=>∀ vs H' G',Ext H G H' G'->DenL K G' ds vs->Q vs H')->t σ H Q
noncomputable def AvD (X:Cx) (W:XP) (es:List Expr) (f:Ga->R (List D)):Prop:=∃ t,PA X es t/\(∀ Γ ds,f Γ=.ok ds->ds.length=es.length)/\TellsL X.K W t f
noncomputable def TellsT (K:PySem.W.Frag) (W:XP) (t:TT) (f:Ga->R Bool):Prop :=
  ∀ (H₀ G₀:Hp) (Γ:Ga) (σ:L2.St) (H G:Hp),Rep K H₀ G₀ Γ σ H G->∀ Q:Bool->Hp->Prop,(f Γ).want (exAt W σ H G) (λ b=>∀ H' G',Ext H G H' G'->Q b H')->t σ H Q
noncomputable def TvD (X:Cx) (W:XP) (e:Expr) (f:Ga->R Bool):Prop:=∃ t,PT X e t/\TellsT X.K W t f
noncomputable def WvD (X:Cx) (W:XP) (e:Expr) (f:Ga->R Bool):Prop:=∃ t,PW X e t/\TellsT X.K W t f
noncomputable def SqP (K:PySem.W.Frag) (H G:Hp) (b:Bool) (a:Addr) (vs:List V):Prop:=match b with
  | true=>SqT K G a vs
  | false=>SqL K H a vs
theorem SqP.up {K:PySem.W.Frag} {H G H' G':Hp} {b:Bool} {a:Addr} {vs:List V} (h:SqP K H G b a vs) (e:Ext H G H' G'):SqP K H' G' b a vs:=by
  cases b with
  | true=>exact Same.seqT e.gg h
  | false=>exact e.hh.seq h
theorem SqP.or {K:PySem.W.Frag} {H G:Hp} {b:Bool} {a:Addr} {vs:List V} (h:SqP K H G b a vs) (g:Same G H):SqL K H a vs∨SqT K H a vs:=by
  cases b with
  | true=>exact .inr (Same.seqT g h)
  | false=>exact .inl h
noncomputable def TellsS (K:PySem.W.Frag) (W:XP) (t:TE) (f:Ga->R (Bool×List D)):Prop :=
  ∀ (H₀ G₀:Hp) (Γ:Ga) (σ:L2.St) (H G:Hp),Rep K H₀ G₀ Γ σ H G->∀ Q:VK,(f Γ).want (exAt W σ H G) (λ p=>∀ a vs H' G',Ext H G H' G'->SqP K H' G' p.1 a vs->DenL K G' p.2 vs->Q (.ref a) H')->t σ H Q
noncomputable def SqD (X:Cx) (W:XP) (e:Expr) (f:Ga->R (Bool×List D)):Prop:=∃ t,PE X e t/\TellsS X.K W t f
noncomputable def TellsO (K:PySem.W.Frag) (W:XP) (t:TE) (f:Ga->R (List D)):Prop :=
  ∀ (H₀ G₀:Hp) (Γ:Ga) (σ:L2.St) (H G:Hp),Rep K H₀ G₀ Γ σ H G->∀ Q:VK,(f Γ).want (exAt W σ H G) (λ ds=>∀ p vs H' G',Ext H G H' G'->H p=none->H' p=some (.lst vs)->G' p=none->DenL K G' ds vs->Q (.ref p) H')->t σ H Q
noncomputable def OwD (X:Cx) (W:XP) (e:Expr) (f:Ga->R (List D)):Prop:=∃ t,PE X e t/\TellsO X.K W t f
section
variable {X:Cx} {W:XP} {a b c e:Expr} {es rest:List Expr} {fa fb fc f:Ga->R D} {fl:Ga->R (List D)} {pos:Pos}
noncomputable def eC (d:D):Ga->R D:=λ _=>.ok d
theorem eC_tells {v:V} {d:D} (h:∀ G,Den X.K G d v):Tells X.K W (tC v) (eC d):=λ _ _ _ _ H G R Q w=>w _ H G (.refl R.gh) (h G)
theorem ev_int {i j}:EvD X W (.Constant (.int i) j pos) (eC (.int i)):=⟨_,pe_int,eC_tells λ _=>den_int⟩
theorem ev_bl {i j}:EvD X W (.Constant (.bool i) j pos) (eC (.bl i)):=⟨_,pe_bl,eC_tells λ _=>den_bl⟩
theorem ev_str {i j}:EvD X W (.Constant (.str i) j pos) (eC (.str i)):=⟨_,pe_str,eC_tells λ _=>den_str⟩
noncomputable def eV (i:Nat):Ga->R D:=λ Γ=>match Γ[i]? with
  | some (.val d)=>.ok d
  | _=>.no
theorem ev_var (i:Nat) {x:Str} (hN:X.N[i]?=some x:=by rfl) (hv:Vis X.env.scope x:=by first | exact Or.inl rfl | exact Or.inr (Or.inl rfl) | exact Or.inr (Or.inr rfl)) (hd:(x == ("__debug__":Str))=false:=by decide)
    (hcd:(x == ("__classdict__":Str))=false:=by decide):EvD X W (.Name x pos) (eV i) :=
  ⟨_,pe_var hN hv hd hcd,λ _ _ Γ _ H G R Q w=>by
    unfold eV at w
    split at w
    · rename_i d q
      obtain ⟨v,e1,e2⟩:=R.vl i d q
      exact ⟨v,e1,w v H G (.refl R.gh) e2⟩
    · exact w.elim⟩
noncomputable def sV (i:Nat):Ga->R (Bool×List D):=λ Γ=>match Γ[i]? with
  | some (.val (.tup ds))=>.ok (true,ds)
  | some (.val (.lst ds))=>.ok (false,ds)
  | some (.own ds)=>.ok (false,ds)
  | some (.par _ ds)=>.ok (false,ds)
  | _=>.no
theorem sq_var (i:Nat) {x:Str} (hN:X.N[i]?=some x:=by rfl) (hv:Vis X.env.scope x:=by first | exact Or.inl rfl | exact Or.inr (Or.inl rfl) | exact Or.inr (Or.inr rfl)) (hd:(x == ("__debug__":Str))=false:=by decide)
    (hcd:(x == ("__classdict__":Str))=false:=by decide):SqD X W (.Name x pos) (sV i) :=
  ⟨_,pe_var hN hv hd hcd,λ _ _ Γ _ H G R Q w=>by
    unfold sV at w
    split at w
    · rename_i z
      obtain ⟨v,e1,e2⟩:=R.vl i _ z
      obtain ⟨a,vs,rfl,s,l⟩:=den_tup.mp e2
      exact ⟨_,e1,w a vs H G (.refl R.gh) s l⟩
    · rename_i z
      obtain ⟨v,e1,e2⟩:=R.vl i _ z
      obtain ⟨a,vs,rfl,s,l⟩:=den_lst.mp e2
      exact ⟨_,e1,w a vs H G (.refl R.gh) (R.gh.seq s) l⟩
    · rename_i z
      obtain ⟨a,vs,e1,e2,_,_,e5⟩:=R.ow i _ z
      exact ⟨_,e1,w a vs H G (.refl R.gh) (SqL.of e2) e5⟩
    · rename_i z
      obtain ⟨e1,vs,e2,_,_,e5⟩:=R.all i _ z
      exact ⟨_,e1,w _ vs H G (.refl R.gh) (SqL.of e2) e5⟩
    · exact w.elim⟩
noncomputable def seqOf:D->Option (Bool×List D)
  | .tup ds=>some (true,ds)
  | .lst ds=>some (false,ds)
  | _=>none
noncomputable def sE (f:Ga->R D):Ga->R (Bool×List D):=λ Γ=>(f Γ).bind λ d=>.ofO (seqOf d)
theorem sq_ev (h:EvD X W e f):SqD X W e (sE f):=by
  obtain ⟨t,p,q⟩:=h
  refine ⟨t,p,λ H₀ G₀ Γ σ H G R Q w=>?_⟩
  refine q _ _ _ _ _ _ R _ (wStep w (λ _ h=>h) λ d w v H' G' E1 d1=>?_)
  obtain ⟨⟨b,ds⟩,e2,w⟩:=wOfO w
  cases d with
  | tup xs =>
    cases e2
    obtain ⟨a,vs,rfl,s,l⟩:=den_tup.mp d1
    exact w a vs H' G' E1 s l
  | lst xs =>
    cases e2
    obtain ⟨a,vs,rfl,s,l⟩:=den_lst.mp d1
    exact w a vs H' G' E1 (E1.gh.seq s) l
  | _=>cases e2
noncomputable def sO (fl:Ga->R (List D)):Ga->R (Bool×List D):=λ Γ=>(fl Γ).bind λ ds=>.ok (false,ds)
theorem sq_ow (h:OwD X W e fl):SqD X W e (sO fl):=by
  obtain ⟨t,p,q⟩:=h
  refine ⟨t,p,λ H₀ G₀ Γ σ H G R Q w=>?_⟩
  exact q _ _ _ _ _ _ R _ (wStep w (λ _ h=>h) λ ds w p vs H' G' E1 hp h' g' l=>w p vs H' G' E1 (SqL.of h') l)
noncomputable def eO (fl:Ga->R (List D)):Ga->R D:=λ Γ=>(fl Γ).bind λ ds=>.ok (.lst ds)
theorem ev_ow (h:OwD X W e fl):EvD X W e (eO fl):=by
  obtain ⟨t,p,q⟩:=h
  refine ⟨t,p,λ H₀ G₀ Γ σ H G R Q w=>?_⟩
  refine q _ _ _ _ _ _ R _ (wStep w (λ _ h=>h) λ ds w p vs H' G' E1 hp h' g' l=>?_)
  exact w _ H' (upd G' p (.lst vs)) (E1.take hp h' g') (den_lst.mpr ⟨p,vs,rfl,SqL.of upd_same,l.up (same_upd g' _)⟩)
noncomputable def aNil:Ga->R (List D):=λ _=>.ok []
noncomputable def aCons (f:Ga->R D) (fl:Ga->R (List D)):Ga->R (List D):=λ Γ=>(f Γ).bind λ d=>(fl Γ).bind λ ds=>.ok (d::ds)
theorem av_nil:AvD X W [] aNil:=⟨_,pa_nil,λ _ _ e=>by cases e; rfl,λ _ _ _ _ H G R Q w=>w [] H G (.refl R.gh) (denL_nil.mpr rfl)⟩
theorem av_cons (ha:EvD X W e f) (hr:AvD X W es fl) (hs:starEach (e::es) X.env=(false,eval e X.env)::starEach es X.env:=by rfl):AvD X W (e::es) (aCons f fl):=by
  obtain ⟨t,p,q⟩:=ha
  obtain ⟨ts,ps,hl,qs⟩:=hr
  refine ⟨_,pa_cons p ps hs,λ Γ ds e'=>?_,λ H₀ G₀ Γ σ H G R Q w=>?_⟩
  · unfold aCons at e'
    cases h1:f Γ with
    | ok d =>
      rw [h1] at e'
      cases h2:fl Γ with
      | ok r =>
        rw [h2] at e'
        cases e'
        simp [hl Γ r h2]
      | _=>rw [h2] at e'; cases e'
    | _=>rw [h1] at e'; cases e'
  · refine q _ _ _ _ _ _ R _ (wStep w (λ _ h=>h) λ d w v H1 G1 E1 d1=>?_)
    refine qs _ _ _ _ _ _ (R.after E1) _ (wStep w (λ _ h=>h.up E1) λ ds w vs H2 G2 E2 d2=>?_)
    exact w _ H2 G2 (E1.trans E2) (denL_cons.mpr ⟨v,vs,rfl,d1.up E2.gg,d2⟩)
theorem small24 {n:Nat} (h:n<=1000):n<=sizeLine:=Nat.le_trans h (by decide)
theorem wLen {x:R (List D)} {n:Nat} {E:Str->Prop} {P:List D->Prop} (hl:∀ ds,x=.ok ds->ds.length=n) (w:x.want E P):x.want E (λ ds=>ds.length=n/\P ds):=by
  cases x with
  | ok ds=>exact ⟨hl ds rfl,w⟩
  | ex c=>exact w
  | no=>exact w
noncomputable def eTup (fl:Ga->R (List D)):Ga->R D:=λ Γ=>(fl Γ).bind λ ds=>.ok (.tup ds)
theorem ev_tup {k:Nat} (h:AvD X W es fl) (hl:es.length<=1000:=by decide):EvD X W (.Tuple es k pos) (eTup fl):=by
  obtain ⟨t,p,hn,q⟩:=h
  refine ⟨_,pe_tup p,λ H₀ G₀ Γ σ H G R Q w=>?_⟩
  refine q _ _ _ _ _ _ R _ (wImp (wLen (hn Γ) (wStep w (λ _ h=>h) λ ds w=>w)) (λ _ h=>h) λ ds ⟨hd,w⟩ vs H1 G1 E1 d1=>?_)
  refine ⟨by rw [<- d1.length,hd]; exact small24 hl,λ p hp=>?_⟩
  have A:=Ext.alloc (o:=.tup vs) E1.gh hp
  exact w _ _ _ (E1.trans A) (den_tup.mpr ⟨p,vs,rfl,SqT.of upd_same,d1.up A.gg⟩)
theorem ow_lst (h:AvD X W es fl) (hl:es.length<=1000:=by decide):OwD X W (.List es pos) fl:=by
  obtain ⟨t,p,hn,q⟩:=h
  refine ⟨_,pe_lst p,λ H₀ G₀ Γ σ H G R Q w=>?_⟩
  refine q _ _ _ _ _ _ R _ (wImp (wLen (hn Γ) w) (λ _ h=>h) λ ds ⟨hd,w⟩ vs H1 G1 E1 d1=>?_)
  refine ⟨by rw [<- d1.length,hd]; exact small24 hl,λ p hp=>?_⟩
  exact w p vs _ G1 (E1.trans (.own E1.gh hp _)) (E1.hh.free hp) upd_same (E1.gh.free hp) d1
noncomputable def OpD (X:Cx) (g:Value->Value->Sem Value) (F:D->D->Option D):Prop :=
  ∃ r,OpR X g r/\∀ (H G:Hp) (x y:V) (d1 d2 d:D),Same G H->Den X.K G d1 x->Den X.K G d2 y->F d1 d2=some d->∀ Q:VK,(∀ v H' G',Ext H G H' G'->Den X.K G' d v->Q v H')->r x y H Q
noncomputable def e2 (F:D->D->Option D) (fa fb:Ga->R D):Ga->R D:=λ Γ=>(fa Γ).bind λ x=>(fb Γ).bind λ y=>.ofO (F x y)
theorem ev_op {op:Operator} {F:D->D->Option D} (ho:OpD X (binaryOp op) F) (ha:EvD X W a fa) (hb:EvD X W b fb):EvD X W (.BinOp a op b pos) (e2 F fa fb):=by
  obtain ⟨r,hr,ht⟩:=ho
  obtain ⟨ta,pa,qa⟩:=ha
  obtain ⟨tb,pb,qb⟩:=hb
  refine ⟨_,pe_op hr pa pb,λ H₀ G₀ Γ σ H G R Q w=>?_⟩
  refine qa _ _ _ _ _ _ R _ (wStep w (λ _ h=>h) λ x w v H1 G1 E1 d1=>?_)
  refine qb _ _ _ _ _ _ (R.after E1) _ (wStep w (λ _ h=>h.up E1) λ y w u H2 G2 E2 d2=>?_)
  obtain ⟨d,e',w⟩:=wOfO w
  exact ht _ _ _ _ _ _ _ E2.gh (d1.up E2.gg) d2 e' _ λ w' H3 G3 E3 d3=>w _ _ _ (E1.trans (E2.trans E3)) d3
theorem ev_cmp {op:CmpOp} {F:D->D->Option D} (ho:OpD X (compareOp op) F) (ha:EvD X W a fa) (hb:EvD X W b fb) (hm:behindInMarks op b=false:=by first | exact nomark _ | with_unfolding_all rfl):EvD X W (.Compare a [op] [b] pos) (e2 F fa fb):=by
  obtain ⟨r,hr,ht⟩:=ho
  obtain ⟨ta,pa,qa⟩:=ha
  obtain ⟨tb,pb,qb⟩:=hb
  refine ⟨_,pe_cmpR hr pa pb hm,λ H₀ G₀ Γ σ H G R Q w=>?_⟩
  refine qa _ _ _ _ _ _ R _ (wStep w (λ _ h=>h) λ x w v H1 G1 E1 d1=>?_)
  refine qb _ _ _ _ _ _ (R.after E1) _ (wStep w (λ _ h=>h.up E1) λ y w u H2 G2 E2 d2=>?_)
  obtain ⟨d,e',w⟩:=wOfO w
  exact ht _ _ _ _ _ _ _ E2.gh (d1.up E2.gg) d2 e' _ λ w' H3 G3 E3 d3=>w _ _ _ (E1.trans (E2.trans E3)) d3
noncomputable def asB:D->Option Bool
  | .bl b=>some b
  | _=>none
theorem asB_eq {d:D} {k:Bool} (h:asB d=some k):d=.bl k:=by
  cases d <;> first | (cases h; rfl) | cases h
noncomputable def tB (f:Ga->R D):Ga->R Bool:=λ Γ=>(f Γ).bind λ d=>.ofO (asB d)
theorem tv_of_test {t:TE} (p:PT X e (tTest t)) (q:Tells X.K W t f):TvD X W e (tB f):=by
  refine ⟨_,p,λ H₀ G₀ Γ σ H G R Q w=>?_⟩
  refine q _ _ _ _ _ _ R _ (wStep w (λ _ h=>h) λ d w v H' G' E1 d1=>?_)
  obtain ⟨kb,e2,w⟩:=wOfO w
  cases asB_eq e2
  exact ⟨kb,den_blE d1,w _ _ E1⟩
theorem op_tells {r:R2} {F:D->D->Option D} {ta tb:TE}
    (ht:∀ (H G:Hp) (x y:V) (d1 d2 d:D),Same G H->Den X.K G d1 x->Den X.K G d2 y->F d1 d2=some d->∀ Q:VK,(∀ v H' G',Ext H G H' G'->Den X.K G' d v->Q v H')->r x y H Q)
    (qa:Tells X.K W ta fa) (qb:Tells X.K W tb fb):Tells X.K W (tOp r ta tb) (e2 F fa fb):=by
  intro H₀ G₀ Γ σ H G R Q w
  refine qa _ _ _ _ _ _ R _ (wStep w (λ _ h=>h) λ x w v H1 G1 E1 d1=>?_)
  refine qb _ _ _ _ _ _ (R.after E1) _ (wStep w (λ _ h=>h.up E1) λ y w u H2 G2 E2 d2=>?_)
  obtain ⟨d,e',w⟩:=wOfO w
  exact ht _ _ _ _ _ _ _ E2.gh (d1.up E2.gg) d2 e' _ λ w' H3 G3 E3 d3=>w _ _ _ (E1.trans (E2.trans E3)) d3
theorem tv_cmp {op:CmpOp} {F:D->D->Option D} (ho:OpD X (compareOp op) F) (ha:EvD X W a fa) (hb:EvD X W b fb) (hm:behindInMarks op b=false:=by first | exact nomark _ | with_unfolding_all rfl):TvD X W (.Compare a [op] [b] pos) (tB (e2 F fa fb)):=by
  obtain ⟨r,hr,ht⟩:=ho
  obtain ⟨ta,pa,qa⟩:=ha
  obtain ⟨tb,pb,qb⟩:=hb
  exact tv_of_test (pt_cmpR hr pa pb hm) (op_tells ht qa qb)
noncomputable def e3 (F F':D->D->Option D) (fa fb fc:Ga->R D):Ga->R D:=λ Γ=>(fa Γ).bind λ x=>(fb Γ).bind λ y=>(R.ofO (F x y)).bind λ z=>match z with
  | .bl true=>(fc Γ).bind λ w=>.ofO (F' y w)
  | .bl false=>.ok (.bl false)
  | _=>.no
theorem chain_tells {r r':R2} {F F':D->D->Option D} {ta tb tc:TE}
    (ht:∀ (H G:Hp) (x y:V) (d1 d2 d:D),Same G H->Den X.K G d1 x->Den X.K G d2 y->F d1 d2=some d->∀ Q:VK,(∀ v H' G',Ext H G H' G'->Den X.K G' d v->Q v H')->r x y H Q)
    (ht':∀ (H G:Hp) (x y:V) (d1 d2 d:D),Same G H->Den X.K G d1 x->Den X.K G d2 y->F' d1 d2=some d->∀ Q:VK,(∀ v H' G',Ext H G H' G'->Den X.K G' d v->Q v H')->r' x y H Q)
    (qa:Tells X.K W ta fa) (qb:Tells X.K W tb fb) (qc:Tells X.K W tc fc):Tells X.K W (tChain r r' ta tb tc) (e3 F F' fa fb fc):=by
  intro H₀ G₀ Γ σ H G R Q w
  refine qa _ _ _ _ _ _ R _ (wStep w (λ _ h=>h) λ x w v H1 G1 E1 d1=>?_)
  refine qb _ _ _ _ _ _ (R.after E1) _ (wStep w (λ _ h=>h.up E1) λ y w u H2 G2 E2 d2=>?_)
  obtain ⟨z,ez,w⟩:=wOfOb w
  refine ht _ _ _ _ _ _ _ E2.gh (d1.up E2.gg) d2 ez _ λ w' H3 G3 E3 d3=>?_
  have R3:=(R.after E1).after (E2.trans E3)
  split at w
  · refine ⟨true,den_blE d3,?_⟩
    rw [if_pos rfl]
    refine qc _ _ _ _ _ _ R3 _ (wStep w (λ _ h=>h.up (E1.trans (E2.trans E3))) λ w' w w'' H4 G4 E4 d4=>?_)
    obtain ⟨d,e',w⟩:=wOfO w
    exact ht' _ _ _ _ _ _ _ E4.gh (d2.up (E3.gg.trans E4.gg)) d4 e' _ λ w5 H5 G5 E5 d5=>w _ _ _ (E1.trans (E2.trans (E3.trans (E4.trans E5)))) d5
  · refine ⟨false,den_blE d3,?_⟩
    rw [if_neg Bool.false_ne_true]
    exact w _ _ _ (E1.trans (E2.trans E3)) den_bl
  · exact w.elim
theorem ev_chain {op op':CmpOp} {F F':D->D->Option D} (ho:OpD X (compareOp op) F) (ho':OpD X (compareOp op') F') (ha:EvD X W a fa) (hb:EvD X W b fb) (hc:EvD X W c fc)
    (hm:lastMarks [op,op'] [b,c]=false:=by with_unfolding_all rfl):EvD X W (.Compare a [op,op'] [b,c] pos) (e3 F F' fa fb fc):=by
  obtain ⟨r,hr,ht⟩:=ho
  obtain ⟨r',hr',ht'⟩:=ho'
  obtain ⟨ta,pa,qa⟩:=ha
  obtain ⟨tb,pb,qb⟩:=hb
  obtain ⟨tc,pc,qc⟩:=hc
  exact ⟨_,pe_chain hr hr' pa pb pc hm,chain_tells (X:=X) ht ht' qa qb qc⟩
noncomputable def eAnd (fa fb:Ga->R D):Ga->R D:=λ Γ=>(fa Γ).bind λ x=>match x with
  | .bl true=>fb Γ
  | .bl false=>.ok (.bl false)
  | _=>.no
noncomputable def eOr (fa fb:Ga->R D):Ga->R D:=λ Γ=>(fa Γ).bind λ x=>match x with
  | .bl true=>.ok (.bl true)
  | .bl false=>fb Γ
  | _=>.no
noncomputable def eNot (fa:Ga->R D):Ga->R D:=λ Γ=>(fa Γ).bind λ x=>match x with
  | .bl k=>.ok (.bl (!k))
  | _=>.no
theorem ev_one {op} (h:EvD X W a f):EvD X W (.BoolOp op [a] pos) f:=let ⟨t,p,q⟩:=h; ⟨t,pe_one p,q⟩
theorem ev_and (ha:EvD X W a fa) (hb:EvD X W (.BoolOp .And (b::rest) pos) fb):EvD X W (.BoolOp .And (a::b::rest) pos) (eAnd fa fb):=by
  obtain ⟨ta,pa,qa⟩:=ha
  obtain ⟨tb,pb,qb⟩:=hb
  refine ⟨_,pe_and pa pb,λ H₀ G₀ Γ σ H G R Q w=>?_⟩
  refine qa _ _ _ _ _ _ R _ (wStep w (λ _ h=>h) λ x w v H1 G1 E1 d1=>?_)
  split at w
  · refine ⟨true,den_blE d1,?_⟩
    rw [if_pos rfl]
    exact qb _ _ _ _ _ _ (R.after E1) _ (wImp w (λ _ h=>h.up E1) λ d w u H2 G2 E2 d2=>w _ _ _ (E1.trans E2) d2)
  · refine ⟨false,den_blE d1,?_⟩
    rw [if_neg Bool.false_ne_true]
    exact w _ _ _ E1 den_bl
  · exact w.elim
theorem ev_or (ha:EvD X W a fa) (hb:EvD X W (.BoolOp .Or (b::rest) pos) fb):EvD X W (.BoolOp .Or (a::b::rest) pos) (eOr fa fb):=by
  obtain ⟨ta,pa,qa⟩:=ha
  obtain ⟨tb,pb,qb⟩:=hb
  refine ⟨_,pe_or pa pb,λ H₀ G₀ Γ σ H G R Q w=>?_⟩
  refine qa _ _ _ _ _ _ R _ (wStep w (λ _ h=>h) λ x w v H1 G1 E1 d1=>?_)
  split at w
  · refine ⟨true,den_blE d1,?_⟩
    rw [if_pos rfl]
    exact w _ _ _ E1 den_bl
  · refine ⟨false,den_blE d1,?_⟩
    rw [if_neg Bool.false_ne_true]
    exact qb _ _ _ _ _ _ (R.after E1) _ (wImp w (λ _ h=>h.up E1) λ d w u H2 G2 E2 d2=>w _ _ _ (E1.trans E2) d2)
  · exact w.elim
theorem ev_not (ha:EvD X W a fa):EvD X W (.UnaryOp .Not a pos) (eNot fa):=by
  obtain ⟨ta,pa,qa⟩:=ha
  refine ⟨_,pe_not pa,λ H₀ G₀ Γ σ H G R Q w=>?_⟩
  refine qa _ _ _ _ _ _ R _ (wStep w (λ _ h=>h) λ x w v H1 G1 E1 d1=>?_)
  split at w
  · rename_i kb
    exact ⟨kb,den_blE d1,w _ _ _ E1 den_bl⟩
  · exact w.elim
variable {ga gb:Ga->R Bool}
theorem WvD.tv (h:WvD X W e ga):TvD X W e ga:=let ⟨t,p,q⟩:=h; ⟨t,p.pt,q⟩
noncomputable def tAndR (ga gb:Ga->R Bool):Ga->R Bool:=λ Γ=>(ga Γ).bind λ k=>match k with
  | true=>gb Γ
  | false=>.ok false
noncomputable def tOrR (ga gb:Ga->R Bool):Ga->R Bool:=λ Γ=>(ga Γ).bind λ k=>match k with
  | true=>.ok true
  | false=>gb Γ
noncomputable def tNotR (ga:Ga->R Bool):Ga->R Bool:=λ Γ=>(ga Γ).bind λ k=>.ok (!k)
theorem wv_and1 (h:TvD X W a ga):WvD X W (.BoolOp .And [a] pos) ga:=let ⟨t,p,q⟩:=h; ⟨t,pw_and1 p,q⟩
theorem wv_or1 (h:TvD X W a ga):WvD X W (.BoolOp .Or [a] pos) ga:=let ⟨t,p,q⟩:=h; ⟨t,pw_or1 p,q⟩
theorem wv_and (ha:TvD X W a ga) (hb:WvD X W (.BoolOp .And (b::rest) pos) gb):WvD X W (.BoolOp .And (a::b::rest) pos) (tAndR ga gb):=by
  obtain ⟨ta,pa,qa⟩:=ha
  obtain ⟨tb,pb,qb⟩:=hb
  refine ⟨_,pw_and pa pb,λ H₀ G₀ Γ σ H G R Q w=>?_⟩
  refine qa _ _ _ _ _ _ R _ (wStep w (λ _ h=>h) λ x w H1 G1 E1=>?_)
  cases x with
  | true=>exact iteT (qb _ _ _ _ _ _ (R.after E1) _ (wImp w (λ _ h=>h.up E1) λ d w H2 G2 E2=>w _ _ (E1.trans E2)))
  | false=>exact iteF (w _ _ E1)
theorem wv_or (ha:TvD X W a ga) (hb:WvD X W (.BoolOp .Or (b::rest) pos) gb):WvD X W (.BoolOp .Or (a::b::rest) pos) (tOrR ga gb):=by
  obtain ⟨ta,pa,qa⟩:=ha
  obtain ⟨tb,pb,qb⟩:=hb
  refine ⟨_,pw_or pa pb,λ H₀ G₀ Γ σ H G R Q w=>?_⟩
  refine qa _ _ _ _ _ _ R _ (wStep w (λ _ h=>h) λ x w H1 G1 E1=>?_)
  cases x with
  | true=>exact iteT (w _ _ E1)
  | false=>exact iteF (qb _ _ _ _ _ _ (R.after E1) _ (wImp w (λ _ h=>h.up E1) λ d w H2 G2 E2=>w _ _ (E1.trans E2)))
theorem tv_not (ha:TvD X W a ga):TvD X W (.UnaryOp .Not a pos) (tNotR ga):=by
  obtain ⟨ta,pa,qa⟩:=ha
  refine ⟨_,pt_not pa,λ H₀ G₀ Γ σ H G R Q w=>?_⟩
  exact qa _ _ _ _ _ _ R _ (wStep w (λ _ h=>h) λ x w H1 G1 E1=>w _ _ E1)
noncomputable def truD:D->Option Bool
  | .non=>some false
  | .bl b=>some b
  | .int i=>some (i != 0)
  | .str x=>if x.length<=10000 then some ((x.length:Int) != 0) else none
  | .tup ds=>some (!ds.isEmpty)
  | .lst ds=>some (!ds.isEmpty)
theorem isEmpty_den {K:PySem.W.Frag} {G:Hp} {ds:List D} {vs:List V} (h:DenL K G ds vs):(!ds.isEmpty)=(!vs.isEmpty):=by
  cases ds with
  | nil=>rw [denL_nil.mp h]; rfl
  | cons d ds=>obtain ⟨v,r,rfl,_⟩:=denL_cons.mp h; rfl
theorem big24 {n:Nat} (h:n<=10000):n<=sizeLine:=Nat.le_trans h (by decide)
theorem tru_den {K:PySem.W.Frag} {H G:Hp} {d:D} {v:V} {k:Bool} (g:Same G H) (h:Den K G d v) (e:truD d=some k):TruV K v H k:=by
  cases d with
  | non=>cases e; rw [den_nonE h]; rfl
  | bl b=>cases e; rw [den_blE h]; rfl
  | int i=>cases e; rw [den_intE h]; rfl
  | str x =>
    rw [den_strE h]
    have e:(if x.length<=10000 then some ((x.length:Int) != 0) else none)=some k:=e
    split at e
    · rename_i hl
      cases e
      exact ⟨big24 hl,rfl⟩
    · cases e
  | tup ds =>
    cases e
    obtain ⟨a,vs,rfl,s,l⟩:=den_tup.mp h
    exact .inr (.inl ⟨vs,Same.seqT g s,isEmpty_den l⟩)
  | lst ds =>
    cases e
    obtain ⟨a,vs,rfl,s,l⟩:=den_lst.mp h
    exact .inl ⟨vs,g.seq s,isEmpty_den l⟩
noncomputable def tTru (f:Ga->R D):Ga->R Bool:=λ Γ=>(f Γ).bind λ d=>.ofO (truD d)
theorem tv_val (h:EvD X W a f) (he:∀ whole,isTrue a X.env whole=(do let v <- whole; standAt a.pos; holding [v] (truthy v)):=by intro _; rfl):TvD X W a (tTru f):=by
  obtain ⟨t,p,q⟩:=h
  refine ⟨_,pt_truth p he,λ H₀ G₀ Γ σ H G R Q w=>?_⟩
  refine q _ _ _ _ _ _ R _ (wStep w (λ _ h=>h) λ d w v H' G' E1 d1=>?_)
  obtain ⟨kb,e2,w⟩:=wOfO w
  exact ⟨kb,tru_den E1.gh d1 e2,w _ _ E1⟩
end
noncomputable def ClsIs (K:PySem.W.Frag) (c:Str) (cls:Value):Prop:=∃ C,cls=.ref C/\PySem.W.nsIn K mainGlobals c=some (some (.ref C))
noncomputable def spF (K:PySem.W.Frag) (mg:Str->Option Value) (n:Nat) (F:List D->R D):Sp:=λ vs H Q E=>∃ (G:Hp) (ds:List D),Same G H/\TabIn K H G/\DenL K G ds vs/\ds.length=n /\
  (F ds).want (λ c=>∀ cls dx H' G',ClsIs K c cls->Ext H G H' G'->E cls dx H') (λ d=>∀ v H' G',Ext H G H' G'->Den K G' d v->Q v H')
noncomputable def xkOf (K:PySem.W.Frag) (W:XP) (σ:L2.St):XK:=λ cls _ H'=>∃ c G',ClsIs K c cls/\W c σ H' G'
noncomputable def PassW (CX:CXT) (X:Cx) (W:XP):Prop:=∀ (pins:List (Addr×Obj)) (σ:L2.St) (H:Hp) (s:Shared) (e:Value) (s':Shared),Inv X pins σ H s->CX X.stack H s (xkOf X.K W σ) e s'->X.xe e s'
section
variable {X:Cx} {W:XP} {e:Expr} {es:List Expr} {f:Ga->R D} {fl:Ga->R (List D)} {pos p:Pos}
noncomputable def tCallX (K:PySem.W.Frag) (W:XP) (sp:Sp) (t:TA):TE:=λ σ H Q=>t σ H λ vs H1=>sp vs H1 Q (xkOf K W σ)
theorem pe_callX {CX:CXT} {k:Nat} {fa:Addr} {fd:FuncData} {ps:List Str} {sp:Sp} {x:Str} {t:TA} (F:FnOk X.prog X.w X.K X.mg X.base CX k fa fd ps sp) (hr:Room k X.A) (hg:Gl X x) (hm:X.mg x=some (.ref fa))
    (hk:PySem.W.keepIn X.K (.ref fa)=true) (hb:Binds X.K fd ps []) (hx:PassW CX X W) (ha:PA X (e::es) t) (hdb:(x == ("__debug__":Str))=false)
    (he:starEach (e::es) X.env=(false,eval e X.env)::starEach es X.env) (hpl:(backTo pos (starEach es X.env)).any (·.1)=false):PE X (.Call (.Name x p) (e::es) [] pos) (tCallX X.K W sp t):=by
  intro pins s σ H Q I h
  refine wpAny_Call_Name_kw (ld_glob I hg hm ?_ hdb)
  refine PySem.W.callWith_K (h₀:=X.base) I.ok.mod.kin hk (thn (ha pos pins s σ H _ I h) λ us s1 ⟨vs,H1,I1,r,q⟩=>⟨I1.kIn,?_⟩) he hpl
  have hl:us.length=ps.length:=by rw [<- r.length]; exact F.len _ _ _ _ q
  have bb:=hb s1 us I1.kIn (by rw [List.append_nil]; exact hl)
  rw [List.append_nil] at bb
  refine wpAny_call (codeAny_mono (F.run X.A X.stack s1 H1 ⟨us,[]⟩ us vs Q _ hr I1.env0 bb r q) λ r s' hq=>?_)
  cases r with
  | error e=>exact hx pins σ H1 s1 e s' I1 hq
  | ok fl =>
    cases fl with
    | ret u=>exact I1.after hq
    | next=>exact False.elim hq
    | brk=>exact False.elim hq
    | cont=>exact False.elim hq
noncomputable def eCall (F:List D->R D) (fl:Ga->R (List D)):Ga->R D:=λ Γ=>(fl Γ).bind F
theorem ev_call {CX:CXT} {k:Nat} {fa:Addr} {fd:FuncData} {ps:List Str} {F:List D->R D} {x:Str} (Fn:FnOk X.prog X.w X.K X.mg X.base CX k fa fd ps (spF X.K X.mg ps.length F)) (hx:PassW CX X W) (hr:Room k X.A) (hg:Gl X x) (hm:X.mg x=some (.ref fa))
    (hk:PySem.W.keepIn X.K (.ref fa)=true) (hb:Binds X.K fd ps []) (ha:AvD X W (e::es) fl) (hn:(e::es).length=ps.length:=by rfl) (hdb:(x == ("__debug__":Str))=false:=by decide)
    (he:starEach (e::es) X.env=(false,eval e X.env)::starEach es X.env:=by rfl) (hpl:(backTo pos (starEach es X.env)).any (·.1)=false:=by rfl) :
    EvD X W (.Call (.Name x p) (e::es) [] pos) (eCall F fl):=by
  obtain ⟨t,pt,hl,q⟩:=ha
  refine ⟨_,pe_callX Fn hr hg hm hk hb hx pt hdb he hpl,λ H₀ G₀ Γ σ H G R Q w=>?_⟩
  refine q _ _ _ _ _ _ R _ (wImp (wLen (hl Γ) (wStep w (λ _ h=>h) λ ds w=>w)) (λ _ h=>h) λ ds ⟨hd,w⟩ vs H1 G1 E1 d1=>?_)
  exact ⟨G1,ds,E1.gh,E1.tab R.tab,d1,hd.trans hn,wImp w (λ c h cls dx H' G' hc E2=>⟨c,G',hc,h H' G' (E1.trans E2)⟩) λ d w v H' G' E2 d2=>w v H' G' (E1.trans E2) d2⟩
noncomputable def CallD (X:Cx) (g:Value) (F:List D->Option D):Prop :=
  ∃ r,CallR X g r/\∀ (H G:Hp) (vs:List V) (ds:List D) (d:D),Same G H->DenL X.K G ds vs->F ds=some d->∀ Q:VK,(∀ v H' G',Ext H G H' G'->Den X.K G' d v->Q v H')->r vs H Q
noncomputable def eB (F:List D->Option D) (fl:Ga->R (List D)):Ga->R D:=λ Γ=>(fl Γ).bind λ ds=>.ofO (F ds)
theorem ev_callB {id:String} {F:List D->Option D} {x:Str} (hc:CallD X (.builtin id) F) (hg:Gl X x) (hm:X.mg x=none) (hv:bootBuiltins x=some (.builtin id)) (ha:AvD X W (e::es) fl) (hn:x≠"__name__":=by decide)
    (hdb:(x == ("__debug__":Str))=false:=by decide) (he:starEach (e::es) X.env=(false,eval e X.env)::starEach es X.env:=by rfl) (hpl:(backTo pos (starEach es X.env)).any (·.1)=false:=by rfl) :
    EvD X W (.Call (.Name x p) (e::es) [] pos) (eB F fl):=by
  obtain ⟨r,hr,ht⟩:=hc
  obtain ⟨t,pt,hl,q⟩:=ha
  refine ⟨_,pe_callB hr hg hm hv pt hn hdb he hpl,λ H₀ G₀ Γ σ H G R Q w=>?_⟩
  refine q _ _ _ _ _ _ R _ (wStep w (λ _ h=>h) λ ds w vs H1 G1 E1 d1=>?_)
  obtain ⟨d,e2,w⟩:=wOfO w
  exact ht _ _ _ _ _ E1.gh d1 e2 _ λ v H' G' E2 d2=>w v H' G' (E1.trans E2) d2
noncomputable def CallS (X:Cx) (g:Value) (F:Bool×List D->Option D):Prop :=
  ∃ r,CallR X g r/\∀ (H G:Hp) (b:Bool) (ds:List D) (d:D) (a:Addr) (vs:List V),Same G H->SqP X.K H G b a vs->DenL X.K G ds vs->F (b,ds)=some d->∀ Q:VK,(∀ v H' G',Ext H G H' G'->Den X.K G' d v->Q v H')->r [.ref a] H Q
variable {fs:Ga->R (Bool×List D)}
noncomputable def eS (F:Bool×List D->Option D) (fs:Ga->R (Bool×List D)):Ga->R D:=λ Γ=>(fs Γ).bind λ p=>.ofO (F p)
theorem ev_callBS {id:String} {F:Bool×List D->Option D} {x:Str} (hc:CallS X (.builtin id) F) (hg:Gl X x) (hm:X.mg x=none) (hv:bootBuiltins x=some (.builtin id)) (ha:SqD X W e fs) (hn:x≠"__name__":=by decide)
    (hdb:(x == ("__debug__":Str))=false:=by decide) (he:starEach [e] X.env=[(false,eval e X.env)]:=by rfl):EvD X W (.Call (.Name x p) [e] [] pos) (eS F fs):=by
  obtain ⟨r,hr,ht⟩:=hc
  obtain ⟨t,pt,q⟩:=ha
  refine ⟨_,pe_callB hr hg hm hv (pa_cons pt pa_nil he) hn hdb he rfl,λ H₀ G₀ Γ σ H G R Q w=>?_⟩
  refine q _ _ _ _ _ _ R _ (wStep w (λ _ h=>h) λ ⟨b,ds⟩ w a vs H1 G1 E1 s1 d1=>?_)
  obtain ⟨d,e2,w⟩:=wOfO w
  exact ht _ _ _ _ _ _ _ E1.gh s1 d1 e2 _ λ v H' G' E2 d2=>w v H' G' (E1.trans E2) d2
theorem ev_callTS {id:String} {F:Bool×List D->Option D} {x:Str} (hc:CallS X (.type id) F) (hg:Gl X x) (hm:X.mg x=none) (hv:bootBuiltins x=some (.type id)) (ha:SqD X W e fs) (hn:x≠"__name__":=by decide)
    (hdb:(x == ("__debug__":Str))=false:=by decide) (he:starEach [e] X.env=[(false,eval e X.env)]:=by rfl):EvD X W (.Call (.Name x p) [e] [] pos) (eS F fs):=by
  obtain ⟨r,hr,ht⟩:=hc
  obtain ⟨t,pt,q⟩:=ha
  refine ⟨_,pe_callTy hr hg hm hv (pa_cons pt pa_nil he) hn hdb he rfl,λ H₀ G₀ Γ σ H G R Q w=>?_⟩
  refine q _ _ _ _ _ _ R _ (wStep w (λ _ h=>h) λ ⟨b,ds⟩ w a vs H1 G1 E1 s1 d1=>?_)
  obtain ⟨d,e2,w⟩:=wOfO w
  exact ht _ _ _ _ _ _ _ E1.gh s1 d1 e2 _ λ v H' G' E2 d2=>w v H' G' (E1.trans E2) d2
end
end Wy


namespace Wy
open PySem PySem.Spec PyProof.Rows L2
inductive RS where
  | nx (Γ:Ga) | rt (d:D) | bk (Γ:Ga) | ct (Γ:Ga) | ex (c:Str) (Γ:Ga) | no
noncomputable def RS.of {α:Type} (x:R α) (Γ:Ga) (k:α->RS):RS:=match x with
  | .ok a=>k a
  | .ex c=>.ex c Γ
  | .no=>.no
@[simp] theorem RS.of_ok {α:Type} (a:α) (Γ:Ga) (k:α->RS):RS.of (.ok a) Γ k=k a:=nr rfl
@[simp] theorem RS.of_ex {α:Type} (c:Str) (Γ:Ga) (k:α->RS):RS.of (.ex c) Γ k=.ex c Γ:=nr rfl
@[simp] theorem RS.of_no {α:Type} (Γ:Ga) (k:α->RS):RS.of .no Γ k=.no:=nr rfl
noncomputable def Lifts (K:PySem.W.Frag) (W:XP) (H₀ G₀:Hp) (r:RS) (D:Ends):Prop:=match r with
  | .nx Γ=>∀ σ H G,Rep K H₀ G₀ Γ σ H G->D.nx σ H
  | .rt d=>∀ v H G,Ext H₀ G₀ H G->Den K G d v->D.rt v H
  | .bk Γ=>∀ σ H G,Rep K H₀ G₀ Γ σ H G->D.bk σ H
  | .ct Γ=>∀ σ H G,Rep K H₀ G₀ Γ σ H G->D.ct σ H
  | .ex c Γ=>∀ σ H G,Rep K H₀ G₀ Γ σ H G->W c σ H G
  | .no=>False
theorem wS {K:PySem.W.Frag} {W:XP} {H₀ G₀:Hp} {α:Type} {x:R α} {Γ:Ga} {k:α->RS} {D:Ends} {σ:L2.St} {H G:Hp} {P:α->Prop} (r:Rep K H₀ G₀ Γ σ H G) (w:Lifts K W H₀ G₀ (RS.of x Γ k) D)
    (h:∀ a,Lifts K W H₀ G₀ (k a) D->P a):x.want (exAt W σ H G) P:=by
  cases x with
  | ok a=>exact h a w
  | ex c=>exact λ H' G' e=>w σ H' G' (r.after e)
  | no=>exact w.elim
theorem Ext.unbase {H₀ G₀ H1 G1 H G:Hp} (e:Ext H₀ G₀ H1 G1) (r:Ext H₀ G1 H G):Ext H₀ G₀ H G:=⟨e.gg.trans r.gg,r.gh,r.hh,λ a h=>(r.fr a h).trans (e.fr a h),r.tb⟩
theorem Rep.base {K:PySem.W.Frag} {H₀ G₀ H G:Hp} {Γ:Ga} {σ:L2.St} (R:Rep K H₀ G₀ Γ σ H G):Rep K H₀ G Γ σ H G:=⟨⟨Same.refl _,R.ex.gh,R.ex.hh,λ _ _=>rfl,R.ex.tb⟩,R.tab,R.ln,R.all,R.di⟩
theorem Rep.unbase {K:PySem.W.Frag} {H₀ G₀ H1 G1 H G:Hp} {Γ:Ga} {σ:L2.St} (e:Ext H₀ G₀ H1 G1) (R:Rep K H₀ G1 Γ σ H G):Rep K H₀ G₀ Γ σ H G:=⟨e.unbase R.ex,R.tab,R.ln,R.all,R.di⟩
theorem Lifts.base {K:PySem.W.Frag} {W:XP} {H₀ G₀ H1 G1:Hp} {r:RS} {D:Ends} (e:Ext H₀ G₀ H1 G1) (w:Lifts K W H₀ G₀ r D):Lifts K W H₀ G1 r D:=by
  cases r with
  | nx Γ=>exact λ σ H G R=>w σ H G (R.unbase e)
  | rt d=>exact λ v H G r=>w v H G (e.unbase r)
  | bk Γ=>exact λ σ H G R=>w σ H G (R.unbase e)
  | ct Γ=>exact λ σ H G R=>w σ H G (R.unbase e)
  | ex c Γ=>exact λ σ H G R=>w σ H G (R.unbase e)
  | no=>exact w
noncomputable def Does (K:PySem.W.Frag) (W:XP) (t:TS) (s:Ga->RS):Prop:=∀ (H₀ G₀:Hp) (Γ:Ga) (σ:L2.St) (H G:Hp),Rep K H₀ G₀ Γ σ H G->∀ D:Ends,Lifts K W H₀ G₀ (s Γ) D->t D σ H
noncomputable def ExD (X:Cx) (W:XP) (st:Stmt) (s:Ga->RS):Prop:=∃ t,PS X st t/\Does X.K W t s
noncomputable def ExDs (X:Cx) (W:XP) (sts:List Stmt) (s:Ga->RS):Prop:=∃ t,PSs X sts t/\Does X.K W t s
noncomputable def TgD (X:Cx) (tg:Expr) (g:D->Ga->Option Ga):Prop:=∃ t:TG,PG X tg t/\∀ (H₀ G₀:Hp) (Γ:Ga) (σ:L2.St) (H G:Hp) (d:D) (v:V) (Γ':Ga),Rep X.K H₀ G₀ Γ σ H G->Den X.K G d v->g d Γ=some Γ' ->
  ∀ Q:L2.St->Hp->Prop,(∀ σ' ,Rep X.K H₀ G₀ Γ' σ' H G->Q σ' H)->t v σ H Q
section
variable {X:Cx} {W:XP} {st:Stmt} {rest sa sb:List Stmt} {T U:Ga->RS} {e c:Expr} {f:Ga->R D} {fl:Ga->R (List D)} {fs:Ga->R (Bool×List D)} {g:Ga->R Bool} {pos pos' apos cpos:Pos} {x y:Str} {i j:Nat}
noncomputable def sNext:Ga->RS:=λ Γ=>.nx Γ
noncomputable def sSeq (T U:Ga->RS):Ga->RS:=λ Γ=>match T Γ with
  | .nx Γ'=>U Γ'
  | r=>r
theorem xs_nil:ExDs X W [] sNext:=⟨_,pss_nil,λ _ _ Γ σ H G R D w=>w σ H G R⟩
theorem Lifts.seq {K:PySem.W.Frag} {H₀ G₀:Hp} {D:Ends} {u:TS} {Γ:Ga} (q:Does K W u U) (w:Lifts K W H₀ G₀ (sSeq T U Γ) D):Lifts K W H₀ G₀ (T Γ) { D with nx:=u D }:=by
  unfold sSeq at w
  cases h:T Γ with
  | nx Γ'=>rw [h] at w; exact λ σ H G R=>q H₀ G₀ Γ' σ H G R D w
  | rt d=>rw [h] at w; exact w
  | bk d=>rw [h] at w; exact w
  | ct d=>rw [h] at w; exact w
  | ex c d=>rw [h] at w; exact w
  | no=>rw [h] at w; exact w
theorem xs_cons (h1:ExD X W st T) (h2:ExDs X W rest U):ExDs X W (st::rest) (sSeq T U):=by
  obtain ⟨t,p,q⟩:=h1
  obtain ⟨u,p',q'⟩:=h2
  exact ⟨_,pss_cons p p',λ H₀ G₀ Γ σ H G R D w=>q H₀ G₀ Γ σ H G R _ (Lifts.seq q' w)⟩
theorem xs_one (h1:ExD X W st T):ExDs X W [st] T:=let ⟨t,p,q⟩:=h1; ⟨t,pss_one p,q⟩
noncomputable def sRet (f:Ga->R D):Ga->RS:=λ Γ=>.of (f Γ) Γ λ d=>.rt d
theorem x_ret (h:EvD X W e f):ExD X W (.Return (some e) pos) (sRet f):=by
  obtain ⟨t,p,q⟩:=h
  refine ⟨_,ps_ret p,λ H₀ G₀ Γ σ H G R D w=>?_⟩
  exact q _ _ _ _ _ _ R _ (wS R w λ d w v H' G' E1 d1=>w v H' G' (R.ex.trans E1) d1)
noncomputable def sRetO (i:Nat):Ga->RS:=λ Γ=>match Γ[i]? with
  | some (.own xs)=>.rt (.lst xs)
  | _=>.no
theorem x_retO (i:Nat) (hN:X.N[i]?=some x:=by rfl) (hv:Vis X.env.scope x:=by first | exact Or.inl rfl | exact Or.inr (Or.inl rfl) | exact Or.inr (Or.inr rfl)) (hd:(x == ("__debug__":Str))=false:=by decide)
    (hcd:(x == ("__classdict__":Str))=false:=by decide):ExD X W (.Return (some (.Name x pos')) pos) (sRetO i):=by
  refine ⟨_,ps_ret (pe_var hN hv hd hcd),λ H₀ G₀ Γ σ H G R D w=>?_⟩
  unfold sRetO at w
  split at w
  · rename_i xs e1
    obtain ⟨a,vs,s1,s2,s3,s4,s5⟩:=R.ow i xs e1
    exact ⟨_,s1,w _ H _ (R.ex.take s3 s2 s4) (den_lst.mpr ⟨a,vs,rfl,SqL.of upd_same,s5.up (same_upd s4 _)⟩)⟩
  · exact w.elim
noncomputable def sSet (i:Nat) (f:Ga->R D):Ga->RS:=λ Γ=>.of (f Γ) Γ λ d=>.nx (Γ.set i (.val d))
theorem x_set (i:Nat) (he:EvD X W e f) (hN:X.N.Nodup) (hi:X.N[i]?=some x:=by rfl) (hx:Loc X.env.scope x:=by first | exact Or.inl rfl | exact Or.inr rfl) (hs:swapsWith e (some (.Name x pos')) pos.line X.env=pure false:=by rfl)
    (hf:X.fn x=true∨X.env.scope.names.lookup x=some .local:=by first | exact .inl rfl | exact .inr rfl | assumption):ExD X W (.Assign [.Name x pos'] e pos) (sSet i f):=by
  obtain ⟨t,p,q⟩:=he
  refine ⟨_,ps_set hN hi hx p hs hf,λ H₀ G₀ Γ σ H G R D w=>?_⟩
  exact q _ _ _ _ _ _ R _ (wS R w λ d w v H' G' E1 d1=>w _ H' G' ((R.after E1).setV i d1))
theorem own_new {K:PySem.W.Frag} {H₀ G₀ H G:Hp} {Γ:Ga} {σ:L2.St} {p:Addr} (R:Rep K H₀ G₀ Γ σ H G) (hp:H p=none):∀ (j:Nat) y,Γ[j]?=some y->y.mu=true->σ[j]?≠some (some (.ref p)):=λ j y hy hm hs=>by
  obtain ⟨a,us,s1,s2,_⟩:=R.at hy hm
  rw [hs] at s1
  cases s1
  rw [hp] at s2
  cases s2
noncomputable def sSetO (i:Nat) (fl:Ga->R (List D)):Ga->RS:=λ Γ=>.of (fl Γ) Γ λ ds=>.nx (Γ.set i (.own ds))
theorem x_setO (i:Nat) (he:OwD X W e fl) (hN:X.N.Nodup) (hi:X.N[i]?=some x:=by rfl) (hx:Loc X.env.scope x:=by first | exact Or.inl rfl | exact Or.inr rfl) (hs:swapsWith e (some (.Name x pos')) pos.line X.env=pure false:=by rfl)
    (hf:X.fn x=true∨X.env.scope.names.lookup x=some .local:=by first | exact .inl rfl | exact .inr rfl | assumption):ExD X W (.Assign [.Name x pos'] e pos) (sSetO i fl):=by
  obtain ⟨t,p,q⟩:=he
  refine ⟨_,ps_set hN hi hx p hs hf,λ H₀ G₀ Γ σ H G R D w=>?_⟩
  exact q _ _ _ _ _ _ R _ (wS R w λ d w p vs H' G' E1 hp h' g' l=>w _ H' G' ((R.after E1).setO i h' (R.ex.hh.free hp) g' l λ j ys hj hy=>own_new R hp j ys hy))
noncomputable def sDrop (f:Ga->R D):Ga->RS:=λ Γ=>.of (f Γ) Γ λ _=>.nx Γ
theorem x_expr (he:EvD X W e f) (hs:swapsWith e none pos.line X.env=pure false:=by rfl):ExD X W (.Expr e pos) (sDrop f):=by
  obtain ⟨t,p,q⟩:=he
  refine ⟨_,ps_expr p hs,λ H₀ G₀ Γ σ H G R D w=>?_⟩
  exact q _ _ _ _ _ _ R _ (wS R w λ d w v H' G' E1 d1=>w _ H' G' (R.after E1))
noncomputable def sIf (g:Ga->R Bool) (T U:Ga->RS):Ga->RS:=λ Γ=>.of (g Γ) Γ λ k=>match k with
  | true=>T Γ
  | false=>U Γ
theorem x_if (hc:TvD X W c g) (ha:ExDs X W sa T) (hb:ExDs X W sb U):ExD X W (.If c sa sb pos) (sIf g T U):=by
  obtain ⟨t,p,q⟩:=hc
  obtain ⟨ta,pa,qa⟩:=ha
  obtain ⟨tb,pb,qb⟩:=hb
  refine ⟨_,ps_if p pa pb,λ H₀ G₀ Γ σ H G R D w=>?_⟩
  refine q _ _ _ _ _ _ R _ (wS R w λ k w H' G' E1=>?_)
  cases k with
  | true=>exact iteT (qa _ _ _ _ _ _ (R.after E1) D w)
  | false=>exact iteF (qb _ _ _ _ _ _ (R.after E1) D w)
theorem lt24 {n:Nat} (h:n < 16000000):n < sizeLine:=Nat.lt_of_lt_of_le h (by decide)
noncomputable def sApp (i:Nat) (f:Ga->R D):Ga->RS:=λ Γ=>match Γ[i]? with
  | some (.own xs)=>.of (f Γ) Γ λ d=>if xs.length < 16000000 then .nx (Γ.set i (.own (xs++[d]))) else .no
  | _=>.no
theorem x_app (i:Nat) (he:EvD X W e f) (hN:X.N[i]?=some x:=by rfl) (hv:Vis X.env.scope x:=by first | exact Or.inl rfl | exact Or.inr (Or.inl rfl) | exact Or.inr (Or.inr rfl)) (hd:(x == ("__debug__":Str))=false:=by decide)
    (hcd:(x == ("__classdict__":Str))=false:=by decide) (hs:starEach [e] X.env=[(false,eval e X.env)]:=by rfl) (hline:(apos.endLine == cpos.line)=true:=by rfl)
    (hsw:swapsWith (.Call (.Attribute (.Name x pos') "append" apos) [e] [] cpos) none pos.line X.env=pure false:=by rfl)
    (hbase:attributeBase (.Name x pos') "append" X.env (eval (.Name x pos') X.env)=eval (.Name x pos') X.env:=by rfl)
    (hfew:((backTo cpos (starEach [e] X.env)).all (λ x=>!x.1)&&(backToKw cpos (keywordEach [] X.env)).all (λ x=>x.1.isSome)
     &&decide ([e].length + ([]:List Keyword).length + (if ([]:List Keyword).isEmpty then 0 else 1) < 30))=true:=by rfl) :
    ExD X W (.Expr (.Call (.Attribute (.Name x pos') "append" apos) [e] [] cpos) pos) (sApp i f):=by
  obtain ⟨t,p,q⟩:=he
  refine ⟨_,ps_expr (pe_bm PySem.F.plainAttrs_list PySem.F.slot_list_append PySem.F.type_list_append mt_append (pe_var hN hv hd hcd) (pa_cons p pa_nil hs) hbase hfew hline hs rfl) hsw,λ H₀ G₀ Γ σ H G R D w=>?_⟩
  unfold sApp at w
  split at w
  · rename_i xs e1
    obtain ⟨a,vs,s1,s2,s3,s4,s5⟩:=R.ow i xs e1
    refine ⟨_,s1,.inl ⟨rfl,vs,SqL.of s2⟩,?_⟩
    refine q _ _ _ _ _ _ R _ (wS R w λ d w v H' G' E1 d1=>?_)
    have l1:=s5.up E1.gg
    split at w
    · rename_i hz
      exact ⟨a,vs,v,rfl,rfl,E1.hh.lst s2,by rw [<- l1.length]; exact lt24 hz,w _ _ G' ((R.after E1).mut e1 s1 (l1.append (.one d1)))⟩
    · exact w.elim
  · exact w.elim
noncomputable def sPop (i j:Nat):Ga->RS:=λ Γ=>match Γ[i]? with
  | some (.own xs)=>match xs.getLast? with
    | some d=>.nx ((Γ.set i (.own xs.dropLast)).set j (.val d))
    | none=>.no
  | _=>.no
theorem x_pop (i j:Nat) (hnd:X.N.Nodup) (hN:X.N[i]?=some x:=by rfl) (hv:Vis X.env.scope x:=by first | exact Or.inl rfl | exact Or.inr (Or.inl rfl) | exact Or.inr (Or.inr rfl)) (hj:X.N[j]?=some y:=by rfl)
    (hy:Loc X.env.scope y:=by first | exact Or.inl rfl | exact Or.inr rfl) (hd:(x == ("__debug__":Str))=false:=by decide)
    (hcd:(x == ("__classdict__":Str))=false:=by decide) (hline:(apos.endLine == cpos.line)=true:=by rfl) {py:Pos}
    (hsw:swapsWith (.Call (.Attribute (.Name x pos') "pop" apos) [] [] cpos) (some (.Name y py)) pos.line X.env=pure false:=by rfl)
    (hf:X.fn y=true∨X.env.scope.names.lookup y=some .local:=by first | exact .inl rfl | exact .inr rfl | assumption)
    (hbase:attributeBase (.Name x pos') "pop" X.env (eval (.Name x pos') X.env)=eval (.Name x pos') X.env:=by rfl) :
    ExD X W (.Assign [.Name y py] (.Call (.Attribute (.Name x pos') "pop" apos) [] [] cpos) pos) (sPop i j):=by
  refine ⟨_,ps_set hnd hj hy (pe_bm0 PySem.F.plainAttrs_list PySem.F.slot_list_pop PySem.F.type_list_pop mt_pop (pe_var hN hv hd hcd) hbase hline) hsw hf,λ H₀ G₀ Γ σ H G R D w=>?_⟩
  unfold sPop at w
  split at w
  · rename_i zs e1
    split at w
    · rename_i d hlast
      obtain ⟨a,vs,s1,s2,s3,s4,s5⟩:=R.ow i _ e1
      obtain ⟨xs,rfl⟩:=List.getLast?_eq_some_iff.mp hlast
      rw [List.dropLast_concat] at w
      have hl:=s5.length
      rw [List.length_append,List.length_singleton] at hl
      obtain ⟨v,hv1,hv2⟩:=s5.get (i:=xs.length) (d:=d) (by simp)
      have dl:=s5.dropLast
      rw [List.dropLast_concat] at dl
      refine ⟨_,s1,.inl ⟨rfl,vs,SqL.of s2⟩,a,vs,v,rfl,rfl,s2,by rw [<- hl]; exact hv1,?_⟩
      exact w _ _ G ((R.mut e1 s1 dl).setV j hv2)
    · exact w.elim
  · exact w.elim
noncomputable def sWhileN (g:Ga->R Bool) (T:Ga->RS):Nat->Ga->RS
  | 0,_=>.no
  | n + 1,Γ=>.of (g Γ) Γ λ k=>match k with
    | false=>.nx Γ
    | true=>match T Γ with
      | .nx Γ'=>sWhileN g T n Γ'
      | .ct Γ'=>sWhileN g T n Γ'
      | .bk Γ'=>.nx Γ'
      | r=>r
noncomputable def FUEL:Nat:=1000000
noncomputable def sWhile (g:Ga->R Bool) (T:Ga->RS):Ga->RS:=sWhileN g T FUEL
theorem x_while (hc:TvD X W c g) (hb:ExDs X W sa T) (hp:PassesOwn (model X.prog X.w) X.A X.env X.xe:=by exact PassesOwn.never):ExD X W (.While c sa [] pos) (sWhile g T):=by
  obtain ⟨t,p,q⟩:=hc
  obtain ⟨tb,pb,qb⟩:=hb
  refine ⟨_,ps_while hp p pb,λ H₀ G₀ Γ σ H G R D w=>?_⟩
  refine ⟨λ m σ H=>∃ Γ G,Rep X.K H₀ G₀ Γ σ H G/\Lifts X.K W H₀ G₀ (sWhileN g T m Γ) D,⟨FUEL,Γ,G,R,w⟩,λ m σ H ⟨Γ,G,R,w⟩=>?_⟩
  cases m with
  | zero=>exact w.elim
  | succ n =>
    unfold sWhileN at w
    refine q _ _ _ _ _ _ R _ (wS R w λ k w H' G' E1=>?_)
    cases k with
    | false=>exact iteF (w _ _ _ (R.after E1))
    | true =>
      refine iteT ⟨λ σ' H'=>∃ m',m' < n + 1/\∃ Γ G,Rep X.K H₀ G₀ Γ σ' H' G/\Lifts X.K W H₀ G₀ (sWhileN g T m' Γ) D,λ σ' H' h=>h,?_⟩
      refine qb _ _ _ _ _ _ (R.after E1) _ ?_
      dsimp only at w
      cases h:T Γ with
      | nx Γ'=>rw [h] at w; exact λ σ H G R=>⟨n,Nat.lt_succ_self _,Γ',G,R,w⟩
      | ct Γ'=>rw [h] at w; exact λ σ H G R=>⟨n,Nat.lt_succ_self _,Γ',G,R,w⟩
      | bk Γ'=>rw [h] at w; exact w
      | rt d=>rw [h] at w; exact w
      | ex c d=>rw [h] at w; exact w
      | no=>rw [h] at w; exact w
noncomputable def gName' (i:Nat):D->Ga->Option Ga:=λ d Γ=>some (Γ.set i (.val d))
theorem tg_name (i:Nat) (hN:X.N.Nodup) (hi:X.N[i]?=some x:=by rfl) (hx:Loc X.env.scope x:=by first | exact Or.inl rfl | exact Or.inr rfl)
    (hf:X.fn x=true∨X.env.scope.names.lookup x=some .local:=by first | exact .inl rfl | exact .inr rfl | assumption):TgD X (.Name x pos) (gName' i) :=
  ⟨_,pg_name hN hi hx hf,λ H₀ G₀ Γ σ H G d v Γ' R h e Q q=>by cases e; exact q _ (R.setV i h)⟩
noncomputable def gTwo (g1 g2:D->Ga->Option Ga):D->Ga->Option Ga:=λ d Γ=>match d with
  | .tup [d1,d2]=>(g1 d1 Γ).bind (g2 d2)
  | _=>none
theorem tg_two {e1 e2:Expr} {g1 g2:D->Ga->Option Ga} {k:Nat} (hc:X.calm=true) (h1:TgD X e1 g1) (h2:TgD X e2 g2)
    (hs1:(assignEach [e1,e2] X.env).map (·.2)=assign e1 X.env::(assignEach [e2] X.env).map (·.2):=by rfl) (hs2:(assignEach [e2] X.env).map (·.2)=assign e2 X.env::(assignEach [] X.env).map (·.2):=by rfl)
    (hn:(assignEach [e1,e2] X.env).length=2:=by rfl) (hst:(assignEach [e1,e2] X.env).findIdx? (·.1)=none:=by rfl) :
    TgD X (.Tuple [e1,e2] k pos) (gTwo g1 g2):=by
  obtain ⟨t1,p1,q1⟩:=h1
  obtain ⟨t2,p2,q2⟩:=h2
  refine ⟨_,pg_tup hc (pgs_cons p1 (pgs_cons p2 pgs_nil hs2) hs1) hn hst,λ H₀ G₀ Γ σ H G d v Γ' R h e' Q q=>?_⟩
  unfold gTwo at e'
  split at e'
  · rename_i d1 d2
    obtain ⟨Γ1,e1,e2⟩:=Option.bind_eq_some_iff.mp e'
    obtain ⟨a,vs,rfl,s,l⟩:=den_tup.mp h
    obtain ⟨v1,r1,rfl,l1,l⟩:=denL_cons.mp l
    obtain ⟨v2,r2,rfl,l2,l⟩:=denL_cons.mp l
    cases denL_nil.mp l
    refine ⟨a,_,rfl,Same.seqT R.gh s,rfl,v1,_,rfl,q1 _ _ _ _ _ _ _ _ _ R l1 e1 _ λ σ1 R1=>⟨v2,[],rfl,q2 _ _ _ _ _ _ _ _ _ R1 l2 e2 _ λ σ2 R2=>⟨rfl,q σ2 R2⟩⟩⟩
  · cases e'
noncomputable def sTurns (g:D->Ga->Option Ga) (T:Ga->RS):List D->Ga->RS
  | [],Γ=>.nx Γ
  | d::ds,Γ=>match g d Γ with
    | none=>.no
    | some Γ1=>match T Γ1 with
      | .nx Γ'=>sTurns g T ds Γ'
      | .ct Γ'=>sTurns g T ds Γ'
      | .bk Γ'=>.nx Γ'
      | r=>r
end
noncomputable def begin_ (N:List Str) (ds:List D):Ga:=ds.map Sl.val++List.replicate (N.length - ds.length) Sl.un
theorem begin_at {N:List Str} {ds:List D} {i:Nat} {x:Sl} (h:(begin_ N ds)[i]?=some x):x=.un∨∃ d,x=.val d/\ds[i]?=some d:=by
  unfold begin_ at h
  by_cases hi:i < ds.length
  · rw [List.getElem?_append_left (by simpa using hi),List.getElem?_map] at h
    obtain ⟨d',e1,e2⟩:=Option.map_eq_some_iff.mp h
    exact .inr ⟨d',e2.symm,e1⟩
  · rw [List.getElem?_append_right (by simpa using hi)] at h
    obtain ⟨_,e⟩:=List.getElem?_eq_some_iff.mp h
    rw [List.getElem_replicate] at e
    exact .inl e.symm
theorem start_at {N:List Str} {vs:List V} {i:Nat} {v:V} (h:vs[i]?=some v):(L2.start N vs)[i]?=some (some v):=by
  unfold L2.start
  rw [List.getElem?_append_left (by rw [List.length_map]; exact (List.getElem?_eq_some_iff.mp h).1),List.getElem?_map,h]
  rfl
theorem rep_begin {K:PySem.W.Frag} {H G:Hp} {N:List Str} {ds:List D} {vs:List V} (g:Same G H) (tb:TabIn K H G) (l:DenL K G ds vs):Rep K H G (begin_ N ds) (L2.start N vs) H G where
  ex:=.refl g
  tab:=tb
  ln:=by unfold begin_ L2.start; simp [l.length]
  all:=λ i x h=>by
    rcases begin_at h with rfl | ⟨d,rfl,e⟩
    · trivial
    · obtain ⟨v,e3,e4⟩:=l.get e
      exact ⟨v,start_at e3,e4⟩
  di:=λ i j x y a h _ m=>by
    rcases begin_at h with rfl | ⟨d,rfl,e⟩ <;> cases m
noncomputable def callR (N:List Str) (s:Ga->RS) (ds:List D):R D:=match s (begin_ N ds) with
  | .rt d=>.ok d
  | .nx _=>.ok .non
  | .ex c _=>.ex c
  | _=>.no
section
variable {P:Program} {w:World} {K:PySem.W.Frag} {mg:Str->Option Value} {base:Heap}
end
end Wy


namespace Wy
open PySem PySem.Spec PyProof.Rows L2
noncomputable def Yields (K:PySem.W.Frag) (J:It) (G:Hp) (ds:List D):Prop:=∀ (k:Nat) (H' G':Hp),Same G G'->Same G' H' ->
  (∀ d,ds[k]?=some d->J.go k H'/\∀ x H'',J.yld k H' x H''->∃ G'',Ext H' G' H'' G''/\Den K G'' d x)/\(ds.length<=k->J.stop k H')
noncomputable def ItD (X:Cx) (W:XP) (tg iter:Expr) (f:Ga->R (List D)):Prop:=∃ wi,PI X tg iter wi/\∀ (H₀ G₀:Hp) (Γ:Ga) (σ:L2.St) (H G:Hp),Rep X.K H₀ G₀ Γ σ H G ->
  ∀ R:It->Hp->Prop,(f Γ).want (exAt W σ H G) (λ ds=>∀ J H' G',Ext H G H' G'->Yields X.K J G' ds->R J H')->wi σ H R
section
variable {X:Cx} {W:XP} {tg e:Expr} {f:Ga->R D} {fl:Ga->R (List D)} {pos pos':Pos} {sa:List Stmt} {T:Ga->RS}
noncomputable def asL:D->Option (List D)
  | .lst ds=>some ds
  | _=>none
noncomputable def asT:D->Option (List D)
  | .tup ds=>some ds
  | _=>none
theorem asL_eq {d:D} {ds:List D} (h:asL d=some ds):d=.lst ds:=by cases d <;> first | (cases h; rfl) | cases h
theorem asT_eq {d:D} {ds:List D} (h:asT d=some ds):d=.tup ds:=by cases d <;> first | (cases h; rfl) | cases h
noncomputable def iL (f:Ga->R D):Ga->R (List D):=λ Γ=>(f Γ).bind λ d=>.ofO (asL d)
noncomputable def iT (f:Ga->R D):Ga->R (List D):=λ Γ=>(f Γ).bind λ d=>.ofO (asT d)
theorem it_list (he:EvD X W e f):ItD X W tg e (iL f):=by
  obtain ⟨t,p,q⟩:=he
  refine ⟨_,pi_list p,λ H₀ G₀ Γ σ H G R Q w=>?_⟩
  refine q _ _ _ _ _ _ R _ (wStep w (λ _ h=>h) λ d w v H' G' E1 d1=>?_)
  obtain ⟨ds,e2,k⟩:=wOfO w
  cases asL_eq e2
  obtain ⟨a,vs,rfl,s,l⟩:=den_lst.mp d1
  refine ⟨a,rfl,⟨vs,E1.gh.seq s⟩,k _ H' G' E1 λ i H2 G2 g2 h2=>⟨λ d hd=>?_,λ hi=>⟨vs,(g2.trans h2).seq s,by rw [<- l.length]; exact hi⟩⟩⟩
  obtain ⟨v,hv,dv⟩:=l.get hd
  refine ⟨⟨vs,v,(g2.trans h2).seq s,hv⟩,λ x H3 ⟨z,y⟩=>?_⟩
  subst z
  have q:=y vs ((g2.trans h2).seq s)
  rw [hv] at q
  cases q
  exact ⟨G2,.refl h2,dv.up g2⟩
theorem it_tup (he:EvD X W e f):ItD X W tg e (iT f):=by
  obtain ⟨t,p,q⟩:=he
  refine ⟨_,pi_tup p,λ H₀ G₀ Γ σ H G R Q w=>?_⟩
  refine q _ _ _ _ _ _ R _ (wStep w (λ _ h=>h) λ d w v H' G' E1 d1=>?_)
  obtain ⟨ds,e2,k⟩:=wOfO w
  cases asT_eq e2
  obtain ⟨a,vs,rfl,s,l⟩:=den_tup.mp d1
  refine ⟨a,rfl,⟨vs,Same.seqT E1.gh s⟩,k _ H' G' E1 λ i H2 G2 g2 h2=>⟨λ d hd=>?_,λ hi=>⟨vs,Same.seqT (g2.trans h2) s,by rw [<- l.length]; exact hi⟩⟩⟩
  obtain ⟨v,hv,dv⟩:=l.get hd
  refine ⟨⟨vs,v,Same.seqT (g2.trans h2) s,hv⟩,λ x H3 ⟨z,y⟩=>?_⟩
  subst z
  have q:=y vs (Same.seqT (g2.trans h2) s)
  rw [hv] at q
  cases q
  exact ⟨G2,.refl h2,dv.up g2⟩
noncomputable def rng1:List D->Option (List D)
  | [.int j]=>if -(2 ^ 62)<=j/\j < 2 ^ 62 then some ((List.range j.toNat).map λ (k:Nat)=>D.int (0 + (k:Int))) else none
  | _=>none
theorem yields_rng {K:PySem.W.Frag} {G:Hp} (lo:Int) (n:Nat):Yields K (Itr lo n) G ((List.range n).map λ (k:Nat)=>D.int (lo + (k:Int))):=by
  intro i H' G' g h
  refine ⟨λ d hd=>?_,λ hi=>by have h:=hi; simp at h; exact h⟩
  rw [List.getElem?_map] at hd
  obtain ⟨j,e1,e2⟩:=Option.map_eq_some_iff.mp hd
  obtain ⟨hi,e3⟩:=List.getElem?_eq_some_iff.mp e1
  rw [List.getElem_range] at e3
  rw [List.length_range] at hi
  subst e3
  subst e2
  refine ⟨hi,λ x H'' ⟨z,y⟩=>?_⟩
  subst z
  subst y
  exact ⟨G',.refl h,den_int⟩
noncomputable def iR1 (fl:Ga->R (List D)):Ga->R (List D):=λ Γ=>(fl Γ).bind λ d=>.ofO (rng1 d)
theorem it_range1 {p:Pos} (hg:Gl X "range") (hm:X.mg "range"=none) (he:AvD X W [e] fl) (hse:starEach [e] X.env=[(false,eval e X.env)]:=by rfl):ItD X W tg (.Call (.Name "range" p) [e] [] pos) (iR1 fl):=by
  obtain ⟨t,pe,_,q⟩:=he
  refine ⟨_,pi_range1 hg hm pe hse,λ H₀ G₀ Γ σ H G R Q w=>?_⟩
  refine q _ _ _ _ _ _ R _ (wStep w (λ _ h=>h) λ d w vs H' G' E1 d1=>?_)
  obtain ⟨ds,e2,k⟩:=wOfO w
  unfold rng1 at e2
  split at e2
  · rename_i j
    split at e2
    · rename_i hj
      cases e2
      obtain ⟨v,r,rfl,da,db⟩:=denL_cons.mp d1
      cases denL_nil.mp db
      cases den_intE da
      exact ⟨j,rfl,hj.1,hj.2,k _ H' G' E1 (yields_rng 0 _)⟩
    · cases e2
  · cases e2
noncomputable def sFor (fl:Ga->R (List D)) (g:D->Ga->Option Ga) (T:Ga->RS):Ga->RS:=λ Γ=>.of (fl Γ) Γ λ ds=>sTurns g T ds Γ
theorem drop_at {α:Type}:∀ {l:List α} {k:Nat} (h:k < l.length),∃ d,l[k]?=some d/\l.drop k=d::l.drop (k + 1):=λ {l k} h=>⟨l[k],List.getElem?_eq_getElem h,List.drop_eq_getElem_cons h⟩
theorem x_for {gg:D->Ga->Option Ga} (hc:X.calm=true) (he:ItD X W tg e fl) (ht:TgD X tg gg) (hb:ExDs X W sa T) (hs:∀ x,foldedSetIterable e X.env x=pure x:=by intro _; rfl) (hp:PassesOwn (model X.prog X.w) X.A X.env X.xe:=by exact PassesOwn.never) :
    ExD X W (.For tg e sa [] pos) (sFor fl gg T):=by
  obtain ⟨wi,p,q⟩:=he
  obtain ⟨t',p',q'⟩:=ht
  obtain ⟨tb,pb,qb⟩:=hb
  refine ⟨_,ps_for hp hc p p' pb hs,λ H₀ G₀ Γ σ H G R D w=>?_⟩
  refine q _ _ _ _ _ _ R _ (wS R w λ ds hr J H' G' E1 y=>?_)
  have R1:=(R.after E1).base
  have hr:=hr.base (R.after E1).ex
  refine ⟨λ k m σ H=>∃ Γ G,Rep X.K H₀ G' Γ σ H G/\Lifts X.K W H₀ G' (sTurns gg T (ds.drop k) Γ) D/\m + k=ds.length,⟨ds.length,Γ,G',R1,hr,rfl⟩,λ k m σ H ⟨Γ,G,R,hr,hm⟩=>?_⟩
  have Y:=y k H G R.ex.gg R.gh
  by_cases hk:k < ds.length
  · obtain ⟨d,hd,hdr⟩:=drop_at hk
    obtain ⟨go,yl⟩:=Y.1 d hd
    rw [hdr] at hr
    unfold sTurns at hr
    cases g1:gg d Γ with
    | none=>rw [g1] at hr; exact hr.elim
    | some Γ1 =>
      rw [g1] at hr
      dsimp only at hr
      refine .inr ⟨go,λ σ' H'=>∃ Γ G,Rep X.K H₀ G' Γ σ' H' G/\Lifts X.K W H₀ G' (sTurns gg T (ds.drop (k + 1)) Γ) D,λ σ' H' ⟨Γ,G,R,h⟩=>⟨m - 1,by omega,Γ,G,R,h,by omega⟩,λ x H2 hy=>?_⟩
      obtain ⟨G2,E2,dv⟩:=yl x H2 hy
      refine q' _ _ _ _ _ _ _ _ _ (R.after E2) dv g1 _ λ σ' R1=>?_
      refine qb _ _ _ _ _ _ R1 _ ?_
      cases h:T Γ1 with
      | nx Γ'=>rw [h] at hr; exact λ σ H G R=>⟨Γ',G,R,hr⟩
      | ct Γ'=>rw [h] at hr; exact λ σ H G R=>⟨Γ',G,R,hr⟩
      | bk Γ'=>rw [h] at hr; exact hr
      | rt d=>rw [h] at hr; exact hr
      | ex c d=>rw [h] at hr; exact hr
      | no=>rw [h] at hr; exact hr
  · have z:ds.drop k=[]:=List.drop_eq_nil_of_le (by omega)
    rw [z] at hr
    exact .inl ⟨Y.2 (by omega),hr _ _ _ R⟩
end
noncomputable def dots (n:Nat):Str:=⟨Array.replicate n 46⟩
noncomputable def dum (n:Nat):Str:=dots (2 * n + 3)
noncomputable def accN (n:Nat):Str:=dots (2 * n + 2)
noncomputable def blkN (x:Str) (N:List Str):List Str:=x::accN N.length::N.map λ y=>if y=x then dum N.length else y
noncomputable def blk (X:Cx) (scope:Scope) (cl:List (Str×Addr)) (C:Addr) (x:Str) (s₀:Shared) (H₀:Hp) (ex:List Addr):Cx :=
  { X with N:=blkN x X.N,s₀:=s₀,H₀:=H₀,env:=compEnvC scope cl C X.env,outer:=X.stack,stack:=X.stack,ex:=ex,fn:=λ _=>false,pn:=[],xe:=λ _ _=>False }
structure BlkOk (X:Cx) (scope:Scope) (cl:List (Str×Addr)) (x:Str):Prop where
  kind:scope.kind=.function
  cells:∀ y∈scope.names,y.2≠.cell
  clos:closureFor scope X.env=pure cl
  names:∀ y∈scope.names,y.2=.local->scope.names.lookup y.1=some .local
  var:scope.names.lookup x=some .local
  nd:(blkN x X.N).Nodup
  cl1:∀ y c,cl.lookup y=some c->X.env.cells.lookup y=some c
  cl2:∀ y,((relabel scope X.env).names.lookup y=some .cell∨(relabel scope X.env).names.lookup y=some .free)->∃ c,cl.lookup y=some c
  acc:¬ Vis (relabel scope X.env) (accN X.N.length)
  vis:∀ y∈X.N,(if y=x then dum X.N.length else y)∈blkN x X.N->Vis (relabel scope X.env) (if y=x then dum X.N.length else y)->y≠x/\((relabel scope X.env).names.lookup y=some .cell∨(relabel scope X.env).names.lookup y=some .free)/\(X.env.kindOf y=some .cell∨X.env.kindOf y=some .free)
section
variable {X:Cx} {pins:List (Addr×Obj)} {σ:L2.St} {H:Hp} {s:Shared} {scope:Scope} {cl:List (Str×Addr)} {x:Str} {fp:List Addr}
theorem blk_ok (B:BlkOk X scope cl x) (I:Inv X pins σ H s) (hf:∀ b∈fp,FpOk X pins H b) (hfp:∀ b∈fp,b < s.heap.objs.size) {C:Addr} (hC:s.heap.objs.size<=C):(blk X scope cl C x s H fp).Ok where
  mod:=I.ok.mod
  kind:=B.kind
  glob:=I.ok.glob
  blt:=I.ok.blt
  above:=hC
  inj:=λ y z c h1 h2=>I.ok.inj y z c (B.cl1 y c h1) (B.cl1 z c h2)
  has:=λ y h=>B.cl2 y h
  cab:=λ _ _ h=>nomatch h
  hd:=I.ok.hd
  frames:=I.ok.frames
  stk:=.inl rfl
  exf:=λ b hb=>⟨Nat.ne_of_lt (Nat.lt_of_lt_of_le (hfp b hb) hC),λ y c h=>(hf b hb).2.2.2.2.1 y c (B.cl1 y c h)⟩
  bs:=I.bs
  bsz:=Nat.le_trans I.ok.bsz I.sz
  noex:=λ b o e hb=>by
    rcases (hf b hb).2.2.2.1 with z | z
    · exact I.ok.noex b o e z
    · exact absurd (Nat.lt_of_lt_of_le (Heap.lt_size e) (Nat.le_trans I.ok.bsz z)) (Nat.lt_irrefl _)
  exfs:=λ b hb z=>by
    rcases List.mem_cons.mp (I.stkSub b z) with e | e
    · exact (hf b hb).2.1 e
    · exact (hf b hb).2.2.1 e
  funs:=I.stack
  frf:=I.stkFree
theorem blk_inv (B:BlkOk X scope cl x) (I:Inv X pins σ H s) (hf:∀ b∈fp,FpOk X pins H b) (hfp:∀ b∈fp,b < s.heap.objs.size) {C Dd:Addr} {h1:Heap} {tk:Nat} {m:Str->Option Value}
    (hC:s.heap.objs.size<=C) (hD:s.heap.objs.size<=Dd) (hDC:Dd≠C) (hn:h1.Ns C m) (hd:h1.get? Dd=some { cls:=.type "list",data:=.seq #[] 0 }) (k:∀ b o,s.heap.get? b=some o->h1.get? b=some o) :
    Inv (blk X scope cl C x s H fp) [] (none::some (V.ref Dd)::σ) (upd H Dd (.lst [])) { s with heap:=h1,toks:=tk } where
  ok:=blk_ok B I hf hfp hC
  os:=rfl
  bare:=I.bare
  base:=Un.laid k hD (I.hok.fresh hD)
  loc:=by
    refine ⟨m,hn,λ i y v e1 e2 e3=>?_⟩
    match i,e1,e2 with
    | 0,e1,e2=>cases e2
    | 1,e1,e2 =>
      have e:y=accN X.N.length:=by
        have:=e1
        simp only [blk,blkN,List.getElem?_cons_succ,List.getElem?_cons_zero] at this
        exact (Option.some.inj this).symm
      subst e
      exact absurd e3 B.acc
    | i + 2,e1,e2 =>
      have e1':(X.N.map λ y=>if y=x then dum X.N.length else y)[i]?=some y:=e1
      have e2':σ[i]?=some (some v):=e2
      rw [List.getElem?_map] at e1'
      obtain ⟨z,hz,ez⟩:=Option.map_eq_some_iff.mp e1'
      subst ez
      have hmem:z∈X.N:=List.mem_of_getElem? hz
      obtain ⟨hne,hk1,hk2⟩:=B.vis z hmem (List.mem_cons_of_mem _ (List.mem_cons_of_mem _ (List.mem_map_of_mem (f:=λ y=>if y=x then dum X.N.length else y) hmem))) e3
      rw [if_neg hne]
      obtain ⟨m0,_,hl⟩:=I.loc
      obtain ⟨u,r,l⟩:=hl i z v hz e2' (hk2.elim (λ q=>.inr (.inl q)) λ q=>.inr (.inr q))
      refine ⟨u,r,.inr ⟨hk1,?_⟩⟩
      rcases l with ⟨q,_⟩ | ⟨_,c,hc,hcell⟩
      · rcases hk2 with q' | q' <;> (rw [q] at q'; cases q')
      · obtain ⟨c',hc'⟩:=B.cl2 z hk1
        have:=B.cl1 z c' hc'
        rw [hc] at this
        cases this
        obtain ⟨o,ho,hod⟩:=hcell
        exact ⟨c,hc',o,k _ _ ho,hod⟩
  cell:=λ y c h=>by
    obtain ⟨v,o,ho,hod⟩:=I.cell y c (B.cl1 y c h)
    exact ⟨v,o,k _ _ ho,hod⟩
  free:=by
    show upd H Dd (.lst []) C=none
    rw [upd_ne (Ne.symm hDC)]
    exact I.hok.fresh hC
  freeC:=λ y c h=>by
    obtain ⟨v,o,ho,hod⟩:=I.cell y c (B.cl1 y c h)
    show upd H Dd (.lst []) c=none
    rw [upd_ne (λ e=>absurd (Nat.lt_of_lt_of_le (Heap.lt_size ho) (by rw [e]; exact hD)) (Nat.lt_irrefl _))]
    exact I.freeC y c (B.cl1 y c h)
  pin:=λ p hp=>nomatch hp
  hok:=I.hok.laid k hD ⟨Nat.zero_le _,[],0,.nil,hd⟩
  len:=by
    show (none::some (V.ref Dd)::σ).length=(blkN x X.N).length
    simp [blkN,I.len]
end
theorem bind_ok' {α β:Type} {x:R α} {f:α->R β} {b:β} (h:x.bind f=.ok b):∃ a,x=.ok a/\f a=.ok b:=by
  cases x with
  | ok a=>exact ⟨a,rfl,h⟩
  | ex c=>cases h
  | no=>cases h
noncomputable def compR (c:Ga->R Bool) (f:Ga->R D) (Γ:Ga):List D->R (List D)
  | []=>.ok []
  | d::ds=>(c (.val d::.un::Γ)).calm.bind λ k=>match k with
    | true=>(f (.val d::.un::Γ)).calm.bind λ y=>(compR c f Γ ds).bind λ r=>.ok (y::r)
    | false=>compR c f Γ ds
theorem compR_calm (c:Ga->R Bool) (f:Ga->R D) (Γ:Ga):∀ ds x,compR c f Γ ds≠.ex x
  | [],x,h=>by cases h
  | d::ds,x,h=>by
    unfold compR at h
    cases h1:c (.val d::.un::Γ) with
    | ok k =>
      rw [h1] at h
      cases k with
      | false=>exact compR_calm c f Γ ds x h
      | true =>
        simp only [calm_of_ok,R.bind_ok] at h
        cases h2:f (.val d::.un::Γ) with
        | ok y =>
          rw [h2] at h
          simp only [calm_of_ok,R.bind_ok] at h
          cases h3:compR c f Γ ds with
          | ok r=>rw [h3] at h; cases h
          | ex z=>exact compR_calm c f Γ ds z h3
          | no=>rw [h3] at h; cases h
        | ex z=>rw [h2] at h; cases h
        | no=>rw [h2] at h; cases h
    | ex z=>rw [h1] at h; cases h
    | no=>rw [h1] at h; cases h
noncomputable def TsD (X:Cx) (ifs:List Expr) (c:Ga->R Bool):Prop :=
  ∀ (pins:List (Addr×Obj)) (s:Shared) (σ:L2.St) (H:Hp) (H₀ G₀:Hp) (Γ:Ga) (G:Hp) (b:Bool),Inv X pins σ H s->Rep X.K H₀ G₀ Γ σ H G->c Γ=.ok b ->
    wpAny (model X.prog X.w) X.A (forIn ifs true λ t r=>if r=true then do let ok <- isTrue t X.env (eval t X.env); pure (ForInStep.yield ok) else pure (ForInStep.yield r)) (λ ok s'=>ok=b/\∃ H' G',Inv X pins σ H' s'/\Ext H G H' G') X.xe s
noncomputable def cTrue:Ga->R Bool:=λ _=>.ok true
theorem ts_nil {X:Cx}:TsD X [] cTrue:=λ pins s σ H H₀ G₀ Γ G b I R e=>by
  cases e
  exact wpAny_tests_nil ⟨rfl,H,G,I,.refl R.gh⟩
theorem ts_one {X:Cx} {t:Expr} {c:Ga->R Bool} (h:TvD X XP0 t c):TsD X [t] c:=λ pins s σ H H₀ G₀ Γ G b I R e=>by
  obtain ⟨tt,p,q⟩:=h
  refine wpAny_tests_one (thn (p pins s σ H (λ k H'=>k=b/\∃ G',Ext H G H' G') I (q _ _ _ _ _ _ R _ (by rw [e]; exact λ H' G' E1=>⟨rfl,G',E1⟩))) λ ok s' ⟨H',I',e',G',E1⟩=>⟨e',H',G',I',E1⟩)
section
variable {prog:Program} {w:World} {A:Around} {R:Result->Shared->Prop} {s:Shared}
theorem compLoop_own {elt target iter:Expr} {ifs:List Expr} {scope:Scope} {pos:Pos} {it acc:Value} {env:Env} (I:Nat->Shared->Prop)
    (turn:∀ n s,I n s->wpAny (model prog w) A (pyNext it) (λ r s₁=>match r with
      | none=>R (.ok .next) s₁
      | some v=>wpAny (model prog w) A (letOwnedTupleGo target it v) (λ _ s₁=>wpAny (model prog w) A (assign target env v) (λ _ s₂ =>
          wpAny (model prog w) A (forIn ifs true λ c r=>if r=true then do let ok <- isTrue c env (eval c env); pure (ForInStep.yield ok) else pure (ForInStep.yield r)) (λ ok s₃ =>
            if ok=true then wpAny (model prog w) A (eval elt env) (λ x s₄ =>
              wpAny (model prog w) A (call (.builtin "list.append") [acc,x]) (λ _ s₅=>∃ m,m < n/\I m s₅) (λ _ _=>False) s₄) (λ _ _=>False) s₃
            else ∃ m,m < n/\I m s₃) (λ _ _=>False) s₂) (λ _ _=>False) s₁) (λ _ _=>False) s₁) (λ _ _=>False) s)
    (n:Nat) (h:I n s) :
    codeAny (model prog w) A (.compLoop (.ListComp elt [⟨target,iter,ifs,0⟩] scope pos) 0 it acc env) R s:=by
  refine codeAny_loop rfl I (λ n s hI=>?_) n h
  show wpAny _ A ((compTurn (.ListComp elt [⟨target,iter,ifs,0⟩] scope pos) 0 it acc env).onRaise (λ x=>do noteFrame x env; theTreesLotGoes x)) _ _ s
  refine wpAny_noted ?_
  rw [compTurn_list]
  refine wpAny_bind (wpAny_standAt (wpAny_bind (wpAny_mono (turn n s hI) (λ r s₁ h₁=>?_) λ _ _ h'=>h'.elim)))
  cases r with
  | none=>exact wpAny_pure h₁
  | some v =>
    refine wpAny_bind (wpAny_mono h₁ (λ _ s₁ h₁=>?_) λ _ _ h'=>h'.elim)
    refine wpAny_bind (wpAny_mono h₁ (λ _ s₂ h₂=>wpAny_bind (wpAny_mono h₂ (λ ok s₃ h₃=>?_) λ _ _ h'=>h'.elim)) λ _ _ h'=>h'.elim)
    cases ok with
    | false=>exact wpAny_pure ⟨rfl,h₃⟩
    | true =>
      exact wpAny_bind (wpAny_bind (wpAny_mono h₃ (λ x s₄ h₄=>wpAny_bind (wpAny_mono h₄ (λ _ s₅ h₅=>wpAny_pure (wpAny_pure ⟨rfl,h₅⟩)) λ _ _ h'=>h'.elim)) λ _ _ h'=>h'.elim))
end
theorem Rep.consUn {K:PySem.W.Frag} {H₀ G₀ H G:Hp} {Γ:Ga} {σ:L2.St} (R:Rep K H₀ G₀ Γ σ H G) (o:Option V):Rep K H₀ G₀ (.un::Γ) (o::σ) H G where
  ex:=R.ex
  tab:=R.tab
  ln:=by simp [R.ln]
  all:=λ i x h=>by
    cases i with
    | zero=>cases h; trivial
    | succ i=>exact R.all i x (by simpa using h)
  di:=λ i j x y a h1 h2 m1 m2 h3 h4=>by
    cases i with
    | zero=>cases h1; cases m1
    | succ i =>
      cases j with
      | zero=>cases h2; cases m2
      | succ j=>exact congrArg (· + 1) (R.di i j x y a (by simpa using h1) (by simpa using h2) m1 m2 (by simpa using h3) (by simpa using h4))
section
variable {X:Cx} {pins:List (Addr×Obj)} {σ:L2.St} {H H₀ G₀ G:Hp} {Γ:Ga} {s:Shared} {scope:Scope} {cl:List (Str×Addr)} {x:Str} {px pos:Pos} {fp:List Addr} {elt iter:Expr} {ifs:List Expr} {c:Ga->R Bool} {f:Ga->R D}
theorem comp_core {J:It} {it:Addr} {tn:Nat->Heap->Prop} {ds outs:List D} {E:Value->Shared->Prop} (B:BlkOk X scope cl x) (hcalm:X.calm=true) (I:Inv X pins σ H s) (R:Rep X.K H₀ G₀ Γ σ H G)
    (T:Turn X.prog X.w X.K (.Name x px) J fp it tn) (st:tn 0 s.heap) (hf:∀ b∈fp,FpOk X pins H b) (Y:Yields X.K J G ds)
    (hT:∀ C,TsD (blk X scope cl C x s H fp) ifs c) (hE:∀ C,EvD (blk X scope cl C x s H fp) XP0 elt f) (hc:compR c f Γ ds=.ok outs) (hlen:ds.length < 16000000)
    {RR:Value->Addr->Result->Shared->Prop}
    (hRR:∀ Dd C s' H' G' vs m,s'.os=s.os->AllBare s'.gens->Un (frs X.stack) fp H H' s.heap s'.heap->HOk X.prog X.w H' s'.heap->s.heap.objs.size<=C->H' C=none->s'.heap.Ns C m ->
      Ext H G H' G'->H Dd=none->H' Dd=some (.lst vs)->G' Dd=none->DenL X.K G' outs vs->RR (.ref Dd) C (.ok .next) s') :
    wpAny (model X.prog X.w) X.A (newList []) (λ acc s₃=>wpAny (model X.prog X.w) X.A (newFunctionEnv scope X.env.globals cl [] X.env.qual none .none (some X.env)) (λ cenv s₄ =>
      codeAny (model X.prog X.w) X.A (.compStart (.ListComp elt [⟨.Name x px,iter,ifs,0⟩] scope pos) 0 (.ref it) acc { cenv with scope:=relabel scope X.env }) (RR acc cenv.locals) s₄) E s₃) E s:=by
  have hfp:∀ b∈fp,b < s.heap.objs.size:=λ b hb=>by
    obtain ⟨o,e,_⟩:=T.obj 0 _ st b hb
    exact Heap.lt_size e
  refine wpAny_newObj_type (wpAny_newFunctionEnv B.cells (by intro y hy; simp at hy) (λ h₁ hns₁ hsb₁=>?_) B.kind)
  dsimp only at hns₁ hsb₁ ⊢
  generalize hH2:s.heap.push { cls:=.type "list",dict:=none,data:=.seq ([]:List Value).toArray }=H2 at hns₁ hsb₁ ⊢
  have hC:H2.objs.size=s.heap.objs.size + 1:=by rw [<- hH2,Heap.size_push]
  have hDC:s.heap.objs.size≠H2.objs.size:=by rw [hC]; exact Nat.ne_of_lt (Nat.lt_succ_self _)
  have hCle:s.heap.objs.size<=H2.objs.size:=by rw [hC]; exact Nat.le_succ _
  have old:∀ b o,s.heap.get? b=some o->h₁.get? b=some o:=λ b o e=>hsb₁.extBut b o (by rw [hC]; exact Nat.ne_of_lt (Nat.lt_succ_of_lt (Heap.lt_size e))) (Heap.get?_push_of_some _ (hH2 ▸ Heap.get?_push_of_some _ e))
  have hacc:h₁.get? s.heap.objs.size=some { cls:=.type "list",data:=.seq #[] 0 }:=hsb₁.extBut _ _ hDC (Heap.get?_push_of_some _ (hH2 ▸ Heap.get?_push_size _ rfl))
  have I0:=blk_inv (tk:=s.toks + ([]:List (Str×Value)).length) B I hf hfp hCle (Nat.le_refl _) hDC hns₁ hacc old
  have hp:H s.heap.objs.size=none:=I.fresh
  have E0:Ext H G (upd H s.heap.objs.size (.lst [])) G:=.own R.gh hp _
  have R0:Rep X.K H₀ G₀ (.un::.own []::Γ) (none::some (V.ref s.heap.objs.size)::σ) (upd H s.heap.objs.size (.lst [])) G:=by
    have r1:=((R.after E0).consUn (some (V.ref s.heap.objs.size)))
    have r2:=r1.setO 0 (xs:=[]) (a:=s.heap.objs.size) (vs:=[]) upd_same (R.ex.hh.free hp) (R.gh.free hp) (denL_nil.mpr rfl) (λ j ys hj hy hm hs=>?_)
    · exact r2.consUn none
    · cases j with
      | zero=>exact hj rfl
      | succ j =>
        obtain ⟨a,us,s1,s2,_⟩:=R.at (i:=j) (x:=ys) (by simpa using hy) hm
        have hs':σ[j]?=some (some (V.ref s.heap.objs.size)):=by simpa using hs
        rw [hs'] at s1
        cases s1
        rw [hp] at s2
        cases s2
  generalize hX:blk X scope cl H2.objs.size x s H fp=X' at I0
  have eK:X'.K=X.K:=by rw [<- hX]; rfl
  have eP:X'.prog=X.prog:=by rw [<- hX]; rfl
  have eW:X'.w=X.w:=by rw [<- hX]; rfl
  have eA:X'.A=X.A:=by rw [<- hX]; rfl
  have eE:X'.env=compEnvC scope cl H2.objs.size X.env:=by rw [<- hX]; rfl
  have eX:X'.xe=λ _ _=>False:=by rw [<- hX]; rfl
  have eN:X'.N=blkN x X.N:=by rw [<- hX]; rfl
  have eF:X'.fs=frs X.stack:=by rw [<- hX]; rfl
  have eCa:X'.calm=true:=by rw [<- hX]; exact hcalm
  have hT':TsD X' ifs c:=hX ▸ hT _
  have hE':EvD X' XP0 elt f:=hX ▸ hE _
  have fpok:∀ {H':Hp},(∀ b∈fp,H' b=none)->∀ b∈fp,FpOk X' [] H' b:=λ hn b hb=>by
    refine ⟨hn b hb,?_,?_,.inl (by rw [<- hX]; exact hb),?_,λ p hp=>by rw [<- hX] at hp; exact nomatch hp⟩
    · rw [<- hX]; exact Nat.ne_of_lt (Nat.lt_of_lt_of_le (hfp b hb) hCle)
    · rw [eF]
      intro z
      rcases List.mem_cons.mp (I.stkSub b z) with e | e
      · exact (hf b hb).2.1 e
      · exact (hf b hb).2.2.1 e
    · rw [eE]; exact λ y c' h=>(hf b hb).2.2.2.2.1 y c' (B.cl1 y c' h)
  obtain ⟨te,pe,qe⟩:=hE'
  have pg:PG X' (.Name x px) (gName 0):=pg_name (by rw [eN]; exact B.nd) (by rw [eN]; rfl) (by rw [eE]; exact .inl (lookup_relabel_local B.var)) (by rw [eE]; exact .inr (lookup_relabel_local B.var))
  have loop:∀ s₃:Shared,s₃={ s with heap:=h₁,toks:=s.toks + ([]:List (Str×Value)).length } ->
      codeAny (model X.prog X.w) X.A (.compLoop (.ListComp elt [⟨.Name x px,iter,ifs,0⟩] scope pos) 0 (.ref it) (.ref s.heap.objs.size) (compEnvC scope cl H2.objs.size X.env)) (RR (.ref s.heap.objs.size) H2.objs.size) s₃:=by
    rintro s₃ rfl
    refine compLoop_own (λ n s'=>∃ (k:Nat) (sl:Sl) (o:Option V) (H' G':Hp) (dn rs:List D),Inv X' [] (o::some (V.ref s.heap.objs.size)::σ) H' s'/\tn k s'.heap/\(∀ b∈fp,H' b=none) /\
      Rep X.K H₀ G₀ (sl::.own dn::Γ) (o::some (V.ref s.heap.objs.size)::σ) H' G'/\Ext H G H' G'/\compR c f Γ (ds.drop k)=.ok rs/\dn++rs=outs/\dn.length<=k/\k<=ds.length/\n + k=ds.length) ?_ ds.length
      ⟨0,.un,none,_,G,[],outs,I0,T.keep _ _ _ st (λ b hb o e=>old b o e),λ b hb=>by
        rw [upd_ne (Nat.ne_of_lt (hfp b hb))]; exact (hf b hb).1,R0,E0,hc,rfl,Nat.zero_le _,Nat.zero_le _,rfl⟩
    rintro n s' ⟨k,sl,o,H',G',dn,rs,I',st',fr',R',E',hc',ho,hdn,hkl,hn⟩
    have Yk:=Y k H' G' E'.gg E'.gh
    by_cases hk:k < ds.length
    · obtain ⟨d,hd,hdr⟩:=drop_at hk
      obtain ⟨go,yl⟩:=Yk.1 d hd
      rw [hdr] at hc'
      have it1:=T.item X' eP eW eK eCa k [] s' _ H' (λ _ _=>False) I' (fpok fr') st' go
      rw [eA] at it1
      refine wpAny_mono it1 (λ r s1 ⟨u,hr,h4⟩=>?_) λ _ _ z=>z
      subst hr
      refine wpAny_mono h4 (λ _ s5 ⟨xv,H5,I5,r5,y5,st5,fr5⟩=>?_) λ _ _ z=>z
      obtain ⟨G5,E5,d5⟩:=yl xv H5 y5
      have I5':=I5.pinned (fpok fr5) (T.obj _ _ st5)
      have R5:=R'.after E5
      have asg:=pg _ s5 _ H5 xv u (λ σ' H'=>σ'=some xv::some (V.ref s.heap.objs.size)::σ/\H'=H5) I5' r5 ⟨rfl,rfl⟩
      rw [eP,eW,eA,eE,eX] at asg
      refine wpAny_mono asg (λ _ s6 ⟨σ6,H6,I6,q6,q6'⟩=>?_) λ _ _ z=>z
      subst q6 q6'
      have R6:Rep X.K H₀ G₀ (.val d::.own dn::Γ) (some xv::some (V.ref s.heap.objs.size)::σ) H6 G5:=R5.setV 0 d5
      have R6u:Rep X'.K H₀ G₀ (.val d::.un::Γ) (some xv::some (V.ref s.heap.objs.size)::σ) H6 G5:=by
        rw [eK]
        refine R6.weak rfl λ i y h=>?_
        match i,h with
        | 0,h=>exact .inr h
        | 1,h=>cases h; exact .inl rfl
        | i + 2,h=>exact .inr h
      unfold compR at hc'
      obtain ⟨kb,ec,hc'⟩:=bind_ok' hc'
      have ec:=calm_ok ec
      have tst:=hT' _ s6 _ H6 _ _ _ _ _ I6 R6u ec
      rw [eP,eW,eA,eE,eX] at tst
      refine wpAny_mono tst (λ ok s7 ⟨hok,H7,G7,I7,E7⟩=>?_) λ _ _ z=>z
      subst hok
      have R7:=R6.after E7
      have back:∀ {s8:Shared} {H8:Hp} {G8:Hp} {dn' rs':List D},Inv X' (([]:List (Addr×Obj))++pinsAt fp s5.heap) (some xv::some (V.ref s.heap.objs.size)::σ) H8 s8->Rep X.K H₀ G₀ (.val d::.own dn'::Γ) (some xv::some (V.ref s.heap.objs.size)::σ) H8 G8->Ext H G H8 G8 ->
          compR c f Γ (ds.drop (k + 1))=.ok rs'->dn'++rs'=outs->dn'.length<=k + 1->∃ m,m < n/\∃ (k:Nat) (sl:Sl) (o:Option V) (H' G':Hp) (dn rs:List D),Inv X' [] (o::some (V.ref s.heap.objs.size)::σ) H' s8/\tn k s8.heap/\(∀ b∈fp,H' b=none) /\
            Rep X.K H₀ G₀ (sl::.own dn::Γ) (o::some (V.ref s.heap.objs.size)::σ) H' G'/\Ext H G H' G'/\compR c f Γ (ds.drop k)=.ok rs/\dn++rs=outs/\dn.length<=k/\k<=ds.length/\m + k=ds.length:=λ {s8 H8 G8 dn' rs'} I8 R8 E8 c8 o8 l8=>by
        refine ⟨n - 1,by omega,k + 1,_,_,H8,G8,dn',rs',I8.unpinned,T.keep _ _ _ st5 λ b hb o e=>(I8.pin (b,o) (List.mem_append_right _ (List.mem_append_right _ (mem_pinsAt hb e)))).1,λ b hb=>?_,R8,E8,c8,o8,l8,by omega,by omega⟩
        obtain ⟨o,e,_⟩:=T.obj _ _ st5 b hb
        exact (I8.pin (b,o) (List.mem_append_right _ (List.mem_append_right _ (mem_pinsAt hb e)))).2.1
      have E57:Ext H G H7 G7:=E'.trans (E5.trans E7)
      cases ok with
      | false =>
        rw [if_neg Bool.false_ne_true]
        exact back I7 R7 E57 hc' ho (by omega)
      | true =>
        rw [if_pos rfl]
        obtain ⟨y,ey,hc'⟩:=bind_ok' hc'
        have ey:=calm_ok ey
        obtain ⟨r',er,hc'⟩:=bind_ok' hc'
        cases hc'
        have R7u:=R6u.after E7
        have ev:=pe _ s7 _ H7 (λ v H8=>∃ G8,Ext H7 G7 H8 G8/\Den X'.K G8 y v) I7 (qe _ _ _ _ _ _ R7u _ (by rw [ey]; exact λ v H8 G8 E8 d8=>⟨G8,E8,d8⟩))
        rw [eP,eW,eA,eE,eX] at ev
        refine wpAny_mono ev (λ yv s8 ⟨v8,H8,I8,r8,G8,E8,d8⟩=>?_) λ _ _ z=>z
        rw [eK] at d8
        have R8:=R7.after E8
        obtain ⟨a,vs,q1,q2,q3,q4,q5⟩:=R8.ow 1 dn rfl
        cases q1
        have ap:=mt_append (X:=X') _ s8 _ H8 (.ref s.heap.objs.size) [v8] _ _ (λ v H9=>v=.non/\H9=upd H8 s.heap.objs.size (.lst (vs++[v8]))) I8 rfl (.cons r8 .nil) ⟨_,vs,v8,rfl,rfl,q2,by rw [<- q5.length]; exact lt24 (by omega),rfl,rfl⟩
        rw [eP,eW,eA,eX] at ap
        refine wpAny_mono ap (λ _ s9 ⟨_,H9,I9,_,_,q9⟩=>?_) λ _ _ z=>z
        subst q9
        have tbl:Tbs H (upd H8 s.heap.objs.size (.lst (vs++[v8]))) G8:=λ b ps q=>by
          obtain ⟨ps',h1,h2⟩:=(E57.trans E8).tb b ps q
          exact ⟨ps',by rw [upd_ne (λ z=>by rw [z,hp] at q; cases q)]; exact h1,h2⟩
        refine back I9 (R8.mut (i:=1) rfl rfl (q5.append (.one d8))) ⟨(E57.trans E8).gg,λ b o q=>?_,⟨λ b o q n=>?_,λ b ps q=>let ⟨ps',h,_⟩:=tbl b ps q; ⟨ps',h⟩⟩,(E57.trans E8).fr,tbl⟩ er (by rw [List.append_assoc]; exact ho) (by rw [List.length_append,List.length_singleton]; omega)
        · rw [upd_ne (λ z=>by rw [z,q4] at q; cases q)]; exact E8.gh b o q
        · rw [upd_ne (λ z=>by rw [z,hp] at q; cases q)]; exact (E57.trans E8).hh.nt b o q n
    · have z:ds.drop k=[]:=List.drop_eq_nil_of_le (by omega)
      rw [z] at hc'
      cases hc'
      rw [List.append_nil] at ho
      subst ho
      have dn1:=T.done X' eP eW eK eCa k [] s' _ H' (λ _ _=>False) I' (fpok fr') st' (Yk.2 (by omega))
      rw [eA] at dn1
      refine wpAny_mono dn1 (λ r s1 ⟨hr,I1⟩=>?_) λ _ _ z=>z
      subst hr
      obtain ⟨a,vs,q1,q2,q3,q4,q5⟩:=R'.ow 1 dn rfl
      cases q1
      obtain ⟨m,hm,_⟩:=I1.loc
      have base:=I1.base
      rw [eF] at base
      refine hRR s.heap.objs.size H2.objs.size s1 H' G' vs m ?_ I1.bare ?_ ?_ hCle ?_ ?_ E' hp q2 q4 q5
      · have:=I1.os; rw [<- hX] at this; exact this
      · rw [<- hX] at base; exact base
      · have:=I1.hok; rw [eP,eW] at this; exact this
      · have:=I1.free; rw [eE] at this; exact this
      · rw [eE] at hm; exact hm
  exact codeAny_compStart_list (loop _ rfl) (T.self _ 0 _ _ _ (T.keep _ _ _ st λ b hb o e=>old b o e) (loop _ rfl))
end
section
variable {X:Cx} {scope:Scope} {cl:List (Str×Addr)} {x y:Str} {px py pos spos:Pos} {elt iter:Expr} {ifs:List Expr} {c:Ga->R Bool} {f:Ga->R D} {fl:Ga->R (List D)}
noncomputable def cpR (fl:Ga->R (List D)) (c:Ga->R Bool) (f:Ga->R D):Ga->R (List D):=λ Γ=>(fl Γ).bind λ ds=>if ds.length < 16000000 then compR c f Γ ds else .no
theorem cp_want {Γ:Ga} {ds:List D} {E:Str->Prop} {P:List D->Prop} (h:R.want (if ds.length < 16000000 then compR c f Γ ds else .no) E P):∃ outs,ds.length < 16000000/\compR c f Γ ds=.ok outs/\P outs:=by
  split at h
  · rename_i hl
    cases q:compR c f Γ ds with
    | ok outs=>rw [q] at h; exact ⟨outs,hl,rfl,h⟩
    | ex z=>exact absurd q (compR_calm c f Γ ds z)
    | no=>rw [q] at h; exact h.elim
  · exact h.elim
theorem after_block {pins:List (Addr×Obj)} {σ:L2.St} {H H':Hp} {s s':Shared} {fp:List Addr} (I:Inv X pins σ H s) (hf:∀ b∈fp,FpOk X pins H b) (os:s'.os=s.os) (bare:AllBare s'.gens) (un:Un (frs X.stack) fp H H' s.heap s'.heap) (hok:HOk X.prog X.w H' s'.heap):Inv X pins σ H' s' :=
  I.call' (ch:=fp) os un hok bare λ b hb=>⟨(hf b hb).2.2.2.1,(hf b hb).2.1,(hf b hb).2.2.2.2.1,(hf b hb).2.2.2.2.2⟩
theorem turned_C {pins:List (Addr×Obj)} {σ:L2.St} {H H':Hp} {s s':Shared} {σ':L2.St} {C:Addr} {h'':Heap} (I:Inv X pins σ H s) (I':Inv X pins σ' H' s') (hC:s.heap.objs.size<=C) (hCn:H' C=none) (hsb:Heap.SameBut C s'.heap h''):Inv X pins σ' H' { s' with heap:=h'' }:=by
  have q:=I.fpOk (H':=H') hC hCn
  exact I'.turned (it:=C) (t':=s'.toks) (λ b o hb e=>(hsb.2 b hb).trans e) hCn q.2.1 q.2.2.2.1 q.2.2.2.2.1 q.2.2.2.2.2
theorem ow_comp {W:XP} (B:BlkOk X scope cl x) (hcalm:X.calm=true) (hi:ItD X W (.Name x px) iter fl) (hT:∀ C s H fp,TsD (blk X scope cl C x s H fp) ifs c) (hE:∀ C s H fp,EvD (blk X scope cl C x s H fp) XP0 elt f)
    (hs:∀ x,foldedSetIterable iter X.env x=pure x:=by intro _; rfl):OwD X W (.ListComp elt [⟨.Name x px,iter,ifs,0⟩] scope pos) (cpR fl c f):=by
  obtain ⟨wi,pI,qI⟩:=hi
  refine ⟨λ σ H Q=>∃ (H₀ G₀:Hp) (Γ:Ga) (G:Hp),Rep X.K H₀ G₀ Γ σ H G/\(cpR fl c f Γ).want (exAt W σ H G) λ outs=>∀ p vs H' G',Ext H G H' G'->H p=none->H' p=some (.lst vs)->G' p=none->DenL X.K G' outs vs->Q (.ref p) H',?_,λ H₀ G₀ Γ σ H G R Q w=>⟨H₀,G₀,Γ,G,R,w⟩⟩
  rintro pins s σ H Q I ⟨H₀,G₀,Γ,G,R,w⟩
  rw [eval_ListComp]
  refine wpAny_comprehension_free (use:=none) rfl hs B.clos B.kind B.names ?_
  have h1:=pI pins s σ H (λ J H'=>∃ G' ds outs,Ext H G H' G'/\Yields X.K J G' ds/\ds.length < 16000000/\compR c f Γ ds=.ok outs/\∀ p vs H' G',Ext H G H' G'->H p=none->H' p=some (.lst vs)->G' p=none->DenL X.K G' outs vs->Q (.ref p) H') I
    (qI _ _ _ _ _ _ R _ (wStep w (λ _ h=>h) λ ds w J H' G' E1 y=>let ⟨outs,hl,e2,k⟩:=cp_want w; ⟨G',ds,outs,E1,y,hl,e2,k⟩))
  refine thn h1 λ xv s1 h1=>thn h1 λ itv s2 ⟨it,fp,tn,J,H2,e,I2,T,st,hf,G2,ds,outs,E2,y2,hl,e2,k⟩=>?_
  subst e
  refine comp_core (RR:=λ acc C=>compPost (model X.prog X.w) X.A X.xe none (EP X pins σ Q) acc C) B hcalm I2 (R.after E2) T st hf y2 (λ C=>hT _ _ _ _) (λ C=>hE _ _ _ _) e2 hl ?_
  intro Dd C s' H' G' vs m os bare un hok hC hCn hns E' hp h' g' l
  refine ⟨m,hns,λ h'' hsb=>?_⟩
  have I3:=turned_C I2 (after_block I2 hf os bare un hok) hC hCn hsb
  exact ⟨.ref Dd,H',I3,rfl,k Dd vs H' G' (E2.trans E') (E2.hh.free hp) h' g' l⟩
theorem x_setComp {W:XP} (i:Nat) (B:BlkOk X scope cl x) (hcalm:X.calm=true) (hi:ItD X W (.Name x px) iter fl) (hT:∀ C s H fp,TsD (blk X scope cl C x s H fp) ifs c) (hE:∀ C s H fp,EvD (blk X scope cl C x s H fp) XP0 elt f)
    (hN:X.N.Nodup) (hy:X.N[i]?=some y:=by rfl) (hx:Loc X.env.scope y:=by first | exact Or.inl rfl | exact Or.inr rfl)
    (hsw:swapsWith (.ListComp elt [⟨.Name x px,iter,ifs,0⟩] scope pos) (some (.Name y py)) spos.line X.env=pure true:=by rfl)
    (hf':X.fn y=true∨X.env.scope.names.lookup y=some .local:=by first | exact .inl rfl | exact .inr rfl | assumption)
    (hs:∀ x,foldedSetIterable iter X.env x=pure x:=by intro _; rfl):ExD X W (.Assign [.Name y py] (.ListComp elt [⟨.Name x px,iter,ifs,0⟩] scope pos) spos) (sSetO i (cpR fl c f)):=by
  obtain ⟨wi,pI,qI⟩:=hi
  refine ⟨λ DD σ H=>∃ (H₀ G₀:Hp) (Γ:Ga) (G:Hp),Rep X.K H₀ G₀ Γ σ H G/\(cpR fl c f Γ).want (exAt W σ H G) λ outs=>∀ p vs H' G',Ext H G H' G'->H p=none->H' p=some (.lst vs)->G' p=none->DenL X.K G' outs vs->DD.nx (σ.set i (some (.ref p))) H',?_,?_⟩
  · rintro pins s σ H D I ⟨H₀,G₀,Γ,G,R,w⟩
    rw [exec_Assign_Name_used _ _ _ _ hsw]
    refine wpAny_bind (wpAny_standAt (wpAny_bind ?_))
    show wpAny _ X.A (do let _ <- comprehension (.ListComp elt [⟨.Name x px,iter,ifs,0⟩] scope pos) scope X.env _ (newList []) false (eval iter X.env) (some (assign (.Name y py) X.env))) _ _ s
    refine wpAny_bind (wpAny_mono (wpAny_comprehension_free (use:=some (assign (.Name y py) X.env)) (Q:=λ _ s'=>SP X pins D .next s') rfl hs B.clos B.kind B.names ?_) (λ _ s' hq=>wpAny_pure (wpAny_pure hq)) λ _ _ e=>e)
    have h1:=pI pins s σ H (λ J H'=>∃ G' ds outs,Ext H G H' G'/\Yields X.K J G' ds/\ds.length < 16000000/\compR c f Γ ds=.ok outs/\∀ p vs H' G',Ext H G H' G'->H p=none->H' p=some (.lst vs)->G' p=none->DenL X.K G' outs vs->D.nx (σ.set i (some (.ref p))) H') I
      (qI _ _ _ _ _ _ R _ (wStep w (λ _ h=>h) λ ds w J H' G' E1 y=>let ⟨outs,hl,e2,k⟩:=cp_want w; ⟨G',ds,outs,E1,y,hl,e2,k⟩))
    refine thn h1 λ xv s1 h1=>thn h1 λ itv s2 ⟨it,fp,tn,J,H2,e,I2,T,st,hf,G2,ds,outs,E2,y2,hl,e2,k⟩=>?_
    subst e
    refine comp_core (RR:=λ acc C=>compPost (model X.prog X.w) X.A X.xe (some (assign (.Name y py) X.env)) (λ _ s'=>SP X pins D .next s') acc C) B hcalm I2 (R.after E2) T st hf y2 (λ C=>hT _ _ _ _) (λ C=>hE _ _ _ _) e2 hl ?_
    intro Dd C s' H' G' vs m os bare un hok hC hCn hns E' hp h' g' l
    have I3:=after_block I2 hf os bare un hok
    show wpAny _ X.A (assign (.Name y py) X.env (.ref Dd)) _ _ _
    refine wpAny_assign_Name (store_ok2 (v:=.ref Dd) I3 hN hy hx rfl (λ s4 I4 ⟨a,hsa,ha⟩=>?_) hf')
    have nC:C≠a:=λ z=>by
      subst z
      rcases ha with z | z
      · exact absurd (Nat.lt_of_lt_of_le I2.lt (by rw [<- z]; exact hC)) (Nat.lt_irrefl _)
      · obtain ⟨v,q⟩:=I2.cell y _ z
        exact absurd (Nat.lt_of_lt_of_le q.lt hC) (Nat.lt_irrefl _)
    refine ⟨m,hns.sameBut hsa nC,λ h'' hsb=>?_⟩
    exact ⟨_,H',turned_C I2 I4 hC hCn hsb,k Dd vs H' G' (E2.trans E') (E2.hh.free hp) h' g' l⟩
  · intro H₀ G₀ Γ σ H G R D w
    refine ⟨H₀,G₀,Γ,G,R,wS R w λ outs w p vs H' G' E1 hp h' g' l=>?_⟩
    exact w _ H' G' ((R.after E1).setO i h' (R.ex.hh.free hp) g' l λ j ys hj hy=>own_new R hp j ys hy)
end
end Wy


namespace HT
open PySem PySem.Spec PyProof.Rows L2
section
variable {prog:Program} {w:World} {A:Around} {E:Value->Shared->Prop} {s:Shared}
theorem getItem_tuple_whole {t sl:Addr} {items:Array Value} {vl vu:Value} {lo hi:Option Int} {Q:Value->Shared->Prop} (ht:IsTup s.heap t items) (hs:s.heap.IsSliceOf sl vl vu .none) (pl:IsPart vl lo) (pu:IsPart vu hi)
    (hw:sIx items.size 0 lo=0/\sIx items.size items.size hi=items.size) (h:Q (.ref t) s):wpAny (model prog w) A (getItem (.ref t) (.ref sl)) Q E s:=by
  obtain ⟨os,hos,hcs,hds⟩:=id hs
  have hTs:s.TypeIs (.ref sl) "slice":=⟨os,hos,hcs⟩
  unfold getItem
  try with_reducible refine wpAny_holding ?_
  first | refine wpAny_bind (wpAny_pure ?_) | skip
  refine wpAny_bind (wpAny_sequenceKey ht.typeIs (by decide) ?_)
  refine wpAny_bind (wpAny_callSpecial?_slot (name:=Str.ofString "__getitem__") ht.typeIs PyProof.Rows.slot_tuple_getitem
    (wpAny_call_entry PyProof.Rows.slot_tuple_getitem ht.typeIs entry_tuple_getitem ?_ (args_tuple_getitem _ _)))
  show wpAny _ _ (Builtin.Tuple.tupleItemsOf (.ref t)>>=_) _ _ s
  refine wpAny_bind (tupleItemsOf_ ht ?_)
  refine wpAny_bind (wpAny_typeOf hTs ?_)
  rw [if_pos (by decide)]
  refine wpAny_bind (sliceApplied_gen hs pl pu ?_)
  have hno:(((sIx items.size 0 lo:Nat):Int) == 0&&(1:Int) == 1&&(sIx items.size items.size hi - sIx items.size 0 lo) == items.size)=true:=by
    rw [hw.1,hw.2]
    simp
  show wpAny _ _ (if (((sIx items.size 0 lo:Nat):Int) == 0&&(1:Int) == 1&&(sIx items.size items.size hi - sIx items.size 0 lo) == items.size)=true then _ else _) _ _ s
  rw [if_pos hno]
  unfold Builtin.Tuple.tupleIsExact
  refine wpAny_bind (wpAny_bind (wpAny_typeOf ht.typeIs (wpAny_pure ?_)))
  rw [if_pos (by decide)]
  exact wpAny_bind (wpAny_rule (wpAny_bind (wpAny_pure (wpAny_pure ⟨_,rfl,wpAny_pure h⟩))))
end
end HT
namespace Wy
open PySem PySem.Spec PyProof.Rows L2
section
variable {X:Cx}
noncomputable def rSlTA (K:PySem.W.Frag):V->Option Int->Option Int->Hp->VK->Prop:=λ x lo hi H Q=>∃ a xs,x=.ref a/\SqT K H a xs /\
  ((HT.sIx xs.length 0 lo=0/\HT.sIx xs.length xs.length hi=xs.length)->Q (.ref a) H)/\(¬ (HT.sIx xs.length 0 lo=0/\HT.sIx xs.length xs.length hi=xs.length)->∀ p,H p=none->Q (.ref p) (upd H p (.tup (cutV xs lo hi))))
theorem sl_tupA:SlR X (rSlTA X.K):=by
  intro pins s σ H x v vl vu lo hi sl Q I rx hs pl pu h
  obtain ⟨a,xs,rfl,hx,q1,q2⟩:=h
  by_cases hw:HT.sIx xs.length 0 lo=0/\HT.sIx xs.length xs.length hi=xs.length
  · cases rx
    obtain ⟨its,r,ht,hz⟩:=I.tuple hx
    have hlen:its.toArray.size=xs.length:=by rw [List.size_toArray]; exact r.length.symm
    refine ⟨"tuple",_,PyProof.Rows.slot_tuple_getitem.lookup,ht.typeIs,?_⟩
    exact HT.getItem_tuple_whole ht hs pl pu (by rw [hlen]; exact hw) ⟨.ref a,H,I,rfl,q1 hw⟩
  · exact sl_tup pins s σ H _ v vl vu lo hi sl Q I rx hs pl pu ⟨a,xs,rfl,hx,hw,q2 hw⟩
end
end Wy


namespace Wy
open PySem PySem.Spec PyProof.Rows L2
noncomputable def int2 (g:Int->Int->Option D):D->D->Option D
  | .int i,.int j=>g i j
  | _,_=>none
theorem int2_some {g:Int->Int->Option D} {d1 d2 d:D} (h:int2 g d1 d2=some d):∃ i j,d1=.int i/\d2=.int j/\g i j=some d:=by
  cases d1 <;> cases d2 <;> first | exact ⟨_,_,rfl,rfl,h⟩ | cases h
noncomputable def mulI (i j:Int):Option D:=if (-(2 ^ 64) < i/\i < 2 ^ 64)∨(-(2 ^ 64) < j/\j < 2 ^ 64) then some (.int (i * j)) else none
noncomputable def modI (i j:Int):Option D:=if 0 < j then some (.int (i % j)) else none
section
variable {X:Cx}
theorem opd_add:OpD X (binaryOp .Add) (int2 λ i j=>some (.int (i + j))):=⟨_,op_add,λ H G x y d1 d2 d g h1 h2 e Q q=>by
  obtain ⟨i,j,rfl,rfl,e⟩:=int2_some e
  cases e
  exact ⟨i,j,den_intE h1,den_intE h2,q _ H G (.refl g) den_int⟩⟩
theorem opd_sub:OpD X (binaryOp .Sub) (int2 λ i j=>some (.int (i - j))):=⟨_,op_sub,λ H G x y d1 d2 d g h1 h2 e Q q=>by
  obtain ⟨i,j,rfl,rfl,e⟩:=int2_some e
  cases e
  exact ⟨i,j,den_intE h1,den_intE h2,q _ H G (.refl g) den_int⟩⟩
theorem opd_mul:OpD X (binaryOp .Mult) (int2 mulI):=⟨_,op_mul,λ H G x y d1 d2 d g h1 h2 e Q q=>by
  obtain ⟨i,j,rfl,rfl,e2⟩:=int2_some e
  clear e
  unfold mulI at e2
  split at e2
  · rename_i hc
    cases e2
    exact ⟨i,j,den_intE h1,den_intE h2,hc,q _ H G (.refl g) den_int⟩
  · cases e2⟩
theorem opd_mod:OpD X (binaryOp .Mod) (int2 modI):=⟨_,op_mod,λ H G x y d1 d2 d g h1 h2 e Q q=>by
  obtain ⟨i,j,rfl,rfl,e2⟩:=int2_some e
  clear e
  unfold modI at e2
  split at e2
  · rename_i hc
    cases e2
    exact ⟨i,j,den_intE h1,den_intE h2,hc,q _ H G (.refl g) den_int⟩
  · cases e2⟩
theorem opd_le:OpD X (compareOp .LtE) (int2 λ i j=>some (.bl (decide (i<=j)))):=⟨_,op_le,λ H G x y d1 d2 d g h1 h2 e Q q=>by
  obtain ⟨i,j,rfl,rfl,e⟩:=int2_some e
  cases e
  exact ⟨i,j,den_intE h1,den_intE h2,q _ H G (.refl g) den_bl⟩⟩
theorem opd_gt:OpD X (compareOp .Gt) (int2 λ i j=>some (.bl (decide (j < i)))):=⟨_,op_gt,λ H G x y d1 d2 d g h1 h2 e Q q=>by
  obtain ⟨i,j,rfl,rfl,e⟩:=int2_some e
  cases e
  exact ⟨i,j,den_intE h1,den_intE h2,q _ H G (.refl g) den_bl⟩⟩
noncomputable def ltD:D->D->Option D
  | .int i,.int j=>some (.bl (decide (i < j)))
  | .str x,.str y=>some (.bl (decide (x.cps.toList < y.cps.toList)))
  | _,_=>none
theorem opd_lt:OpD X (compareOp .Lt) ltD:=⟨_,op_lt.or op_lt_str,λ H G x y d1 d2 d g h1 h2 e Q q=>by
  cases d1 <;> cases d2 <;> first | cases e | skip
  · exact .inl ⟨_,_,den_intE h1,den_intE h2,q _ H G (.refl g) den_bl⟩
  · exact .inr ⟨_,_,den_strE h1,den_strE h2,q _ H G (.refl g) den_bl⟩⟩
noncomputable def inStr (x y:Str):Bool:=!(Builtin.Str.occurrences y x 0 y.length 1).isEmpty
noncomputable def lenD:List D->Option D
  | [.str x]=>if x.length<=10000 then some (.int x.length) else none
  | [.tup ds]=>some (.int ds.length)
  | [.lst ds]=>some (.int ds.length)
  | _=>none
theorem calld_len:CallD X (.builtin "len") lenD:=⟨_,call_len,λ H G vs ds d g l e Q q=>by
  unfold lenD at e
  split at e
  · split at e
    · rename_i hx
      cases e
      obtain ⟨v,r,rfl,h1,h2⟩:=denL_cons.mp l
      cases denL_nil.mp h2
      cases den_strE h1
      exact ⟨_,_,rfl,⟨big24 hx,rfl⟩,q _ H G (.refl g) den_int⟩
    · cases e
  · cases e
    obtain ⟨v,r,rfl,h1,h2⟩:=denL_cons.mp l
    cases denL_nil.mp h2
    obtain ⟨a,vs,rfl,s,l⟩:=den_tup.mp h1
    exact ⟨_,_,rfl,.inr ⟨vs,Same.seqT g s,rfl⟩,q _ H G (.refl g) (by rw [l.length]; exact den_int)⟩
  · cases e
    obtain ⟨v,r,rfl,h1,h2⟩:=denL_cons.mp l
    cases denL_nil.mp h2
    obtain ⟨a,vs,rfl,s,l⟩:=den_lst.mp h1
    exact ⟨_,_,rfl,.inl ⟨vs,g.seq s,rfl⟩,q _ H G (.refl g) (by rw [l.length]; exact den_int)⟩
  · cases e⟩
theorem calls_len:CallS X (.builtin "len") (λ p=>some (.int p.2.length)):=⟨_,call_len,λ H G b ds d a vs g s l e Q q=>by
  cases e
  refine ⟨_,_,rfl,?_,q _ H G (.refl g) (by rw [l.length]; exact den_int)⟩
  rcases s.or g with z | z
  · exact .inl ⟨vs,z,rfl⟩
  · exact .inr ⟨vs,z,rfl⟩⟩
theorem calls_tuple:CallS X (.type "tuple") (λ p=>some (.tup p.2)):=⟨_,call_tuple_of,λ H G b ds d a vs g s l e Q q=>by
  cases e
  cases b with
  | true=>exact ⟨a,vs,rfl,.inr ⟨Same.seqT g s,q _ H G (.refl g) (den_tup.mpr ⟨a,vs,rfl,s,l⟩)⟩⟩
  | false =>
    refine ⟨a,vs,rfl,.inl ⟨s,λ p hp=>?_⟩⟩
    have A:=Ext.alloc (o:=.tup vs) g hp
    exact q _ _ _ A (den_tup.mpr ⟨p,vs,rfl,SqT.of upd_same,l.up A.gg⟩)⟩
variable {W:XP}
noncomputable def oList (fs:Ga->R (Bool×List D)):Ga->R (List D):=λ Γ=>(fs Γ).bind λ p=>.ok p.2
theorem ow_list {e:Expr} {fs:Ga->R (Bool×List D)} {pos p:Pos} (hg:Gl X "list") (hm:X.mg "list"=none) (hv:bootBuiltins "list"=some (.type "list")) (ha:SqD X W e fs) (he:starEach [e] X.env=[(false,eval e X.env)]:=by rfl) :
    OwD X W (.Call (.Name "list" p) [e] [] pos) (oList fs):=by
  obtain ⟨t,pt,q⟩:=ha
  refine ⟨_,pe_callTy call_list_of hg hm hv (pa_cons pt pa_nil he) (by decide) (by decide) he rfl,λ H₀ G₀ Γ σ H G R Q w=>?_⟩
  refine q _ _ _ _ _ _ R _ (wStep w (λ _ h=>h) λ ⟨b,ds⟩ k a vs H1 G1 E1 s1 d1=>?_)
  exact ⟨a,vs,rfl,s1.or E1.gh,λ p hp=>k p vs _ G1 (E1.trans (.own E1.gh hp _)) (E1.hh.free hp) upd_same (E1.gh.free hp) d1⟩
theorem atI_den {K:PySem.W.Frag} {G:Hp} {ds:List D} {vs:List V} {i:Int} {d:D} (l:DenL K G ds vs) (h:atI ds i=some d):∃ v,atI vs i=some v/\Den K G d v:=by
  unfold atI at h ⊢
  rw [<- l.length]
  obtain ⟨j,e1,e2⟩:=Option.bind_eq_some_iff.mp h
  obtain ⟨v,e3,e4⟩:=l.get e2
  exact ⟨v,by rw [e1]; exact e3,e4⟩
noncomputable def ixD:D->D->Option D
  | .tup ds,.int i=>atI ds i
  | .lst ds,.int i=>atI ds i
  | .str z,.int i=>if z.length<=10000 then (atI z.cps.toList i).bind λ c=>some (.str ⟨#[c]⟩) else none
  | _,_=>none
variable {a b e:Expr} {fa fb f:Ga->R D} {fs:Ga->R (Bool×List D)} {pos:Pos}
theorem ev_ix (ha:EvD X W a fa) (hb:EvD X W b fb) (hs:PlainIx b:=by intro _ _; rfl):EvD X W (.Subscript a b pos) (e2 ixD fa fb):=by
  obtain ⟨ta,pa,qa⟩:=ha
  obtain ⟨tb,pb,qb⟩:=hb
  refine ⟨_,pe_ix ix_seq pa pb hs,λ H₀ G₀ Γ σ H G R Q w=>?_⟩
  refine qa _ _ _ _ _ _ R _ (wStep w (λ _ h=>h) λ x w v H1 G1 E1 d1=>?_)
  refine qb _ _ _ _ _ _ (R.after E1) _ (wStep w (λ _ h=>h.up E1) λ y w u H2 G2 E2 d2=>?_)
  obtain ⟨d,e',k⟩:=wOfO w
  unfold ixD at e'
  split at e'
  · obtain ⟨p,vs,rfl,s,l⟩:=den_tup.mp (d1.up E2.gg)
    obtain ⟨v,h1,h2⟩:=atI_den l e'
    exact .inr (.inl ⟨p,vs,_,v,rfl,den_intE d2,Same.seqT E2.gh s,h1,k _ _ _ (E1.trans E2) h2⟩)
  · obtain ⟨p,vs,rfl,s,l⟩:=den_lst.mp (d1.up E2.gg)
    obtain ⟨v,h1,h2⟩:=atI_den l e'
    exact .inl ⟨p,vs,_,v,rfl,den_intE d2,E2.gh.seq s,h1,k _ _ _ (E1.trans E2) h2⟩
  · split at e'
    · rename_i hz
      obtain ⟨c,ec,e'⟩:=Option.bind_eq_some_iff.mp e'
      cases e'
      exact .inr (.inr ⟨_,_,c,den_strE d1,den_intE d2,big24 hz,ec,k _ _ _ (E1.trans E2) den_str⟩)
    · cases e'
  · cases e'
noncomputable def ixS:Bool×List D->D->Option D:=λ p y=>match y with
  | .int i=>atI p.2 i
  | _=>none
noncomputable def eIxS (fs:Ga->R (Bool×List D)) (fb:Ga->R D):Ga->R D:=λ Γ=>(fs Γ).bind λ p=>(fb Γ).bind λ y=>.ofO (ixS p y)
theorem ev_ixS (ha:SqD X W a fs) (hb:EvD X W b fb) (hs:PlainIx b:=by intro _ _; rfl):EvD X W (.Subscript a b pos) (eIxS fs fb):=by
  obtain ⟨ta,pa,qa⟩:=ha
  obtain ⟨tb,pb,qb⟩:=hb
  refine ⟨_,pe_ix ix_seq pa pb hs,λ H₀ G₀ Γ σ H G R Q w=>?_⟩
  refine qa _ _ _ _ _ _ R _ (wStep w (λ _ h=>h) λ ⟨b,ds⟩ w p vs H1 G1 E1 s1 l1=>?_)
  refine qb _ _ _ _ _ _ (R.after E1) _ (wStep w (λ _ h=>h.up E1) λ y w u H2 G2 E2 d2=>?_)
  obtain ⟨d,e',k⟩:=wOfO w
  unfold ixS at e'
  split at e'
  · obtain ⟨v,h1,h2⟩:=atI_den (l1.up E2.gg) e'
    rcases (s1.up E2).or E2.gh with z | z
    · exact .inl ⟨p,vs,_,v,rfl,den_intE d2,z,h1,k _ _ _ (E1.trans E2) h2⟩
    · exact .inr (.inl ⟨p,vs,_,v,rfl,den_intE d2,z,h1,k _ _ _ (E1.trans E2) h2⟩)
  · cases e'
noncomputable def OvD (X:Cx) (W:XP) (o:Option Expr) (g:Ga->R (Option Int)):Prop:=∃ t,PO X o t/\∀ (H₀ G₀:Hp) (Γ:Ga) (σ:L2.St) (H G:Hp),Rep X.K H₀ G₀ Γ σ H G->∀ Q:Option Int->Hp->Prop,(g Γ).want (exAt W σ H G) (λ b=>∀ H' G',Ext H G H' G'->Q b H')->t σ H Q
noncomputable def oN:Ga->R (Option Int):=λ _=>.ok none
theorem ov_none:OvD X W none oN:=⟨_,po_none,λ _ _ _ _ H G R Q w=>w H G (.refl R.gh)⟩
noncomputable def asI:D->Option Int
  | .int i=>some i
  | _=>none
noncomputable def oI (f:Ga->R D):Ga->R (Option Int):=λ Γ=>(f Γ).bind λ d=>(R.ofO (asI d)).bind λ i=>.ok (some i)
theorem ov_some (h:EvD X W e f):OvD X W (some e) (oI f):=by
  obtain ⟨t,p,q⟩:=h
  refine ⟨_,po_some p,λ H₀ G₀ Γ σ H G R Q w=>?_⟩
  refine q _ _ _ _ _ _ R _ (wStep w (λ _ h=>h) λ d w v H' G' E1 d1=>?_)
  obtain ⟨i,e2,k⟩:=wOfOb w
  cases d <;> first | cases e2 | skip
  exact ⟨_,den_intE d1,k _ _ E1⟩
noncomputable def cut {α:Type} (xs:List α) (lo hi:Option Int):List α:=(xs.drop (HT.sIx xs.length 0 lo)).take (HT.sIx xs.length xs.length hi - HT.sIx xs.length 0 lo)
theorem cut_whole {α:Type} {xs:List α} {lo hi:Option Int} (h:HT.sIx xs.length 0 lo=0/\HT.sIx xs.length xs.length hi=xs.length):cut xs lo hi=xs:=by
  unfold cut
  rw [h.1,h.2]
  simp
theorem cut_den {K:PySem.W.Frag} {G:Hp} {ds:List D} {vs:List V} (l:DenL K G ds vs) (lo hi:Option Int):DenL K G (cut ds lo hi) (cutV vs lo hi):=by
  unfold cut cutV
  rw [<- l.length]
  exact (l.drop _).take _
variable {lo hi:Option Expr} {gl gh:Ga->R (Option Int)} {p2:Pos}
noncomputable def cutS (p:Bool×List D) (l h:Option Int):Option (List D):=match p with
  | (false,ds)=>some (cut ds l h)
  | _=>none
noncomputable def oSl (fs:Ga->R (Bool×List D)) (gl gh:Ga->R (Option Int)):Ga->R (List D):=λ Γ=>(fs Γ).bind λ d=>(gl Γ).bind λ l=>(gh Γ).bind λ h=>.ofO (cutS d l h)
theorem ow_slL (he:SqD X W e fs) (hl:OvD X W lo gl) (hh:OvD X W hi gh):OwD X W (.Subscript e (.Slice lo hi none p2) pos) (oSl fs gl gh):=by
  obtain ⟨t,p,q⟩:=he
  obtain ⟨t1,p1,q1⟩:=hl
  obtain ⟨t2,p2,q2⟩:=hh
  refine ⟨_,pe_slice sl_list p p1 p2,λ H₀ G₀ Γ σ H G R Q w=>?_⟩
  refine q _ _ _ _ _ _ R _ (wStep w (λ _ h=>h) λ ⟨b,ds⟩ w a vs H1 G1 E1 s1 d1=>?_)
  refine q1 _ _ _ _ _ _ (R.after E1) _ (wStep w (λ _ h=>h.up E1) λ l w H2 G2 E2=>?_)
  refine q2 _ _ _ _ _ _ ((R.after E1).after E2) _ (wStep w (λ _ h=>h.up (E1.trans E2)) λ h w H3 G3 E3=>?_)
  obtain ⟨d,e',k⟩:=wOfO w
  cases b with
  | true=>cases e'
  | false =>
    cases e'
    have E13:=E1.trans (E2.trans E3)
    refine ⟨a,vs,rfl,(s1.up E2).up E3,λ p hp=>?_⟩
    exact k p _ _ G3 (E13.trans (.own E13.gh hp _)) (E13.hh.free hp) upd_same (E13.gh.free hp) (cut_den (d1.up (E2.gg.trans E3.gg)) l h)
theorem bools_of {bs:List Bool}:∀ {us:List Value},Vals (bs.map V.bl) us->LSm.BoolsAre us bs:=by
  induction bs with
  | nil=>intro us h; cases h; exact .nil
  | cons b bs ih =>
    intro us h
    cases h with
    | cons r t =>
      obtain rfl:=(show _=Value.bool b from r)
      exact .cons b (ih t)
theorem call_all:CallR X (.builtin "all") (λ xs H Q=>X.calm=true/\∃ (p:Addr) (bs:List Bool),xs=[.ref p]/\SqL X.K H p (bs.map V.bl)/\Q (.bl (bs.all id)) H):=by
  rintro pins s σ H xs us Q I rv ⟨hc,p,bs,rfl,hs,q⟩
  obtain ⟨u,rfl,ru⟩:=rv.one
  obtain rfl:u=Value.ref p:=ru
  obtain ⟨its,vv,⟨o,n,h1,h2,h3,h4⟩,hl⟩:=I.list hs
  have hb:=bools_of vv
  have hL:s.heap.IsList p its.toArray:=⟨o,h1,h2,n,h4⟩
  have hlt:p < s.heap.objs.size:=Heap.lt_size h1
  refine call_all_walk (wpAny_pyIter_list hL ?_)
  refine ⟨s.heap.objs.size,[s.heap.objs.size,p],[s.heap.objs.size],its.toArray.size,_,_,λ i=>(bs[i]?).getD true,rfl,Walks.list (A:=X.A.in1) (I.ok.hd hc) _ p (Nat.ne_of_lt hlt) its.toArray,
    ⟨⟨_,Heap.get?_push_size _ rfl,rfl,rfl⟩,hL.push _⟩,λ i v s' Q' E' hP hQ=>?_,λ h' tk hk=>?_⟩
  · obtain ⟨b,e,rfl⟩:=hb.get i v (by simpa using hP)
    simp only [e,Option.getD_some] at hQ
    exact wpAny_truthy_bool hQ
  · have e:((List.range its.toArray.size).all λ i=>(bs[i]?).getD true)=bs.all id:=by
      rw [List.size_toArray,hb.length]; exact LSm.range_all bs
    rw [e]
    exact ⟨.bl _,H,I.kept (LSm.kept_iter hk),rfl,q⟩
noncomputable def asBs:List D->Option (List Bool)
  | []=>some []
  | .bl b::ds=>(asBs ds).bind λ r=>some (b::r)
  | _=>none
theorem asBs_den {K:PySem.W.Frag} {G:Hp}:∀ {ds:List D} {vs:List V} {bs:List Bool},DenL K G ds vs->asBs ds=some bs->vs=bs.map V.bl
  | [],vs,bs,h,e=>by cases e; exact denL_nil.mp h
  | d::ds,vs,bs,h,e=>by
    obtain ⟨v,r,rfl,h1,h2⟩:=denL_cons.mp h
    cases d <;> first | cases e | skip
    obtain ⟨r',e1,e2⟩:=Option.bind_eq_some_iff.mp e
    cases e2
    rw [den_blE h1,asBs_den h2 e1]
    rfl
theorem calls_all (hc:X.calm=true):CallS X (.builtin "all") (λ p=>match p with | (false,ds)=>(asBs ds).bind λ bs=>some (.bl (bs.all id)) | _=>none):=⟨_,call_all,λ H G b ds d a vs g s l e Q q=>by
  cases b with
  | true=>cases e
  | false =>
    obtain ⟨bs,e1,e2⟩:=Option.bind_eq_some_iff.mp e
    cases e2
    have:=asBs_den l e1
    subst this
    exact ⟨hc,a,bs,rfl,s,q _ H G (.refl g) den_bl⟩⟩
noncomputable def tyN:D->String
  | .non=>"NoneType"
  | .bl _=>"bool"
  | .int _=>"int"
  | .str _=>"str"
  | .tup _=>"tuple"
  | .lst _=>"list"
noncomputable def tyK (K:PySem.W.Frag) (H:Hp) (x:V) (t:String):Prop:=match x with
  | .non=>t="NoneType"
  | .bl _=>t="bool"
  | .int _=>t="int"
  | .str _=>t="str"
  | .ref a=>(t="tuple"/\∃ vs,SqT K H a vs)∨(t="list"/\∃ vs,SqL K H a vs)
  | _=>False
theorem tyK_den {K:PySem.W.Frag} {H G:Hp} {d:D} {v:V} (g:Same G H) (h:Den K G d v):tyK K H v (tyN d):=by
  cases d with
  | non=>rw [den_nonE h]; rfl
  | bl b=>rw [den_blE h]; rfl
  | int b=>rw [den_intE h]; rfl
  | str b=>rw [den_strE h]; rfl
  | tup _=>obtain ⟨a,vs,rfl,s,_⟩:=den_tup.mp h; exact .inl ⟨rfl,vs,Same.seqT g s⟩
  | lst _=>obtain ⟨a,vs,rfl,s,_⟩:=den_lst.mp h; exact .inr ⟨rfl,vs,g.seq s⟩
theorem call_isi:CallR X (.builtin "isinstance") (λ xs H Q=>∃ x T t b,xs=[x,.ty T]/\tyK X.K H x t/\PySem.W.kitOne X.K (.type t) (.type T)=some b/\Q (.bl b) H):=by
  rintro pins s σ H xs us Q I rv ⟨x,T,t,b,rfl,ty,e,q⟩
  obtain ⟨u,c,rfl,rx,rc⟩:=rv.two
  obtain rfl:c=Value.type T:=rc
  have fin:∀ tk,EP X pins σ Q (.bool b) { s with toks:=tk }:=λ tk=>⟨.bl b,H,I.tok tk,rfl,q⟩
  cases x with
  | non=>obtain rfl:t=_:=ty; cases (show u=Value.none from rx); exact PySem.W.kia_one PySem.W.kitx_none I.kIn True.intro e (λ z=>nomatch z) fin
  | bl y=>obtain rfl:t=_:=ty; cases (show u=Value.bool y from rx); exact PySem.W.kia_one PySem.W.kitx_bool I.kIn True.intro e (λ z=>nomatch z) fin
  | int i=>obtain rfl:t=_:=ty; obtain ⟨t,z⟩:=(show ∃ t,u=Value.int i t from rx); cases z; exact PySem.W.kia_one PySem.W.kitx_int I.kIn True.intro e (λ z=>nomatch z) fin
  | str y=>obtain rfl:t=_:=ty; obtain ⟨t,z⟩:=(show ∃ t,u=Value.str y t from rx); cases z; exact PySem.W.kia_one PySem.W.kitx_str I.kIn True.intro e (λ z=>nomatch z) fin
  | ref a =>
    cases (show u=Value.ref a from rx)
    rcases ty with ⟨rfl,vs,h⟩ | ⟨rfl,vs,h⟩
    · obtain ⟨its,_,⟨o,h1,h2,_⟩,_⟩:=I.tuple h
      exact PySem.W.kia_one PySem.W.kitx_tuple I.kIn ⟨o,h1,h2⟩ e (λ z=>nomatch z) fin
    · obtain ⟨its,_,⟨o,n,h1,h2,_⟩,_⟩:=I.list h
      exact PySem.W.kia_one PySem.W.kitx_list I.kIn ⟨o,h1,h2⟩ e (λ z=>nomatch z) fin
  | byt _=>exact ty.elim
  | flt _=>exact ty.elim
  | ty _=>exact ty.elim
noncomputable def eIsi (g:String->Bool) (fa:Ga->R D):Ga->R D:=λ Γ=>(fa Γ).bind λ d=>.ok (.bl (g (tyN d)))
theorem ev_isi {T:String} {nT:Str} {g:String->Bool} {p p3:Pos} (hg:Gl X "isinstance") (hm:X.mg "isinstance"=none) (hgT:Gl X nT) (hmT:X.mg nT=none) (hv:bootBuiltins nT=some (.type T)) (ha:EvD X W a fa)
    (hk:∀ d:D,PySem.W.kitOne X.K (.type (tyN d)) (.type T)=some (g (tyN d))) (hvi:bootBuiltins "isinstance"=some (.builtin "isinstance")) (hn:nT≠"__name__":=by decide) (hdb:(nT == ("__debug__":Str))=false:=by decide)
    (hs:starEach [a,.Name nT p3] X.env=(false,eval a X.env)::starEach [.Name nT p3] X.env:=by rfl) (hs2:starEach [.Name nT p3] X.env=[(false,eval (.Name nT p3) X.env)]:=by rfl) :
    EvD X W (.Call (.Name "isinstance" p) [a,.Name nT p3] [] pos) (eIsi g fa):=by
  obtain ⟨t,pt,q⟩:=ha
  have pT:PE X (.Name nT p3) (tC (.ty T)):=pe_bltn hgT hmT hv rfl hn hdb
  refine ⟨_,pe_callB call_isi hg hm hvi (pa_cons pt (pa_cons pT pa_nil hs2) hs) (by decide) (by decide) hs (by rw [hs2]; rfl),λ H₀ G₀ Γ σ H G R Q w=>?_⟩
  refine q _ _ _ _ _ _ R _ (wStep w (λ _ h=>h) λ d k v H1 G1 E1 d1=>?_)
  exact ⟨v,T,_,_,rfl,tyK_den E1.gh d1,hk d,k _ _ _ E1 den_bl⟩
end
end Wy


namespace Wy
open PySem PySem.Spec PyProof.Rows L2
section
variable {X:Cx} {W:XP} {tg e:Expr} {f:Ga->R D} {te:TE}
end
section
open PySem.SeqAt
open PySem.AutoSeq1 (wpAny_loadPart')
open PySem.MeetsSeq PySem.MeetsSeq2 PySem.MeetsSeq3 PySem.AutoSeq1
theorem list_extend_tup (l:Addr) (items:Array Value) (n:Nat) (b:Addr) (items2:Array Value) (n2:Nat) (dd:Option Addr) (sl:Array (Option Value)) (hs0:¬(!items.isEmpty&&Builtin.List.listTooLong (items.size + items2.size))=true) (hs1:items.size<=sizeLine) (hs2:items.size + items2.size<=sizeLine + 1) :
    Meets (Builtin.«list.extend» ⟨[.ref l,.ref b],[]⟩) (λ _ R s=>s.heap.get? l=some { cls:=.type "list",dict:=none,data:=.seq items n,slots:=#[] }/\s.heap.get? b=some { cls:=.type "tuple",dict:=dd,data:=.seq items2 n2,slots:=sl }/\R (.ok (.ret Value.none)) { s with heap:=s.heap.update l (Obj.mapSeq λ x=>x++items2),toks:=s.toks }) :=
  .of_wp λ prog w A R s h=>by
    obtain ⟨hp,g,d,tk,os⟩:=s; obtain ⟨hl,hb,h⟩:=h; have f1:=idx_int; have f2:=AutoSeq1.sub_tuple_tuple; have f3:=AutoSeq1.sub_list_list; have f4:=AutoSeq1.sub_tuple_list; have f5:=AutoSeq1.sub_list_tuple;
    have hz':(items++items2).size<=sizeLine + 1:=by rw [Array.size_append]; exact hs2
    wp_walk using (wpAny_updateSeq hl rfl (hz:=hs1) (_hz':=hz')),wpAny_loadPart' hl,wpAny_loadPart' hb; exact ⟨_,rfl,h⟩
end
section
variable {X:Cx}
noncomputable def rExtT (K:PySem.W.Frag):V->List V->Hp->VK->Prop:=λ x vs H Q=>∃ l b xs zs,x=.ref l/\vs=[.ref b]/\H l=some (.lst xs)/\SqT K H b zs/\xs.length + zs.length<=sizeLine/\Q .non (upd H l (.lst (xs++zs)))
theorem mt_extT:MtR X "list.extend" (rExtT X.K):=by
  intro pins s σ H x vs v us Q I rx rv h
  obtain ⟨l,b,xs,zs,rfl,rfl,hH,hB,hz,q⟩:=h
  cases rx
  obtain ⟨u,rfl,ru⟩:=rv.one
  cases ru
  obtain ⟨z,its,n,r,hl,e⟩:=I.lstM hH
  obtain ⟨its2,r2,⟨⟨c2,d2,dt2,s2⟩,e2,hc2,n2,hd2⟩,z2⟩:=I.tuple hB
  have hl2:=r2.length
  cases hc2
  cases hd2
  have hsz:its.toArray.size + its2.toArray.size<=sizeLine:=by rw [List.size_toArray,List.size_toArray]; omega
  have hlong:¬ (!its.toArray.isEmpty&&Builtin.List.listTooLong (its.toArray.size + its2.toArray.size))=true:=by
    rw [notLongL hsz,Bool.and_false]
    exact Bool.false_ne_true
  refine call_meets F.slot_list_extend ⟨_,e,rfl⟩ F.entry_list_extend (F.args_list_extend_2 _ _)
    (list_extend_tup l its.toArray n b its2.toArray n2 d2 s2 hlong (by rw [List.size_toArray]; omega) (by omega)) ⟨e,e2,?_⟩
  refine ⟨.non,_,I.lset (its':=its++its2) hH e (by simp) (r.append r2) ?_,rfl,q⟩
  rw [List.length_append]
  omega
variable {W:XP} {e:Expr} {f:Ga->R D} {pos pos' apos cpos:Pos} {x:Str}
end
end Wy


namespace Wy
open PySem PySem.Spec PyProof.Rows L2
noncomputable def relS (scope osc:Scope):Scope :=
  { scope with names:=scope.names.map λ (n,k)=>if (k == .free&&osc.kind == .function&&osc.names.lookup n == some .cell) then (n,.cell) else (n,k) }
theorem relS_eq (scope:Scope) (env:Env):relabel scope env=relS scope env.scope:=rfl
noncomputable def isCF (k:Option NameKind):Bool:=k == some .cell||k == some .free
noncomputable def visB (sc:Scope) (x:Str):Bool:=sc.names.lookup x == some .local||isCF (sc.names.lookup x)
theorem visB_of {sc:Scope} {x:Str} (h:Vis sc x):visB sc x=true:=by
  unfold visB isCF
  rcases h with h | h | h <;> (rw [h]; rfl)
theorem isCF_iff {k:Option NameKind} (h:isCF k=true):k=some .cell∨k=some .free:=by
  unfold isCF at h
  rw [Bool.or_eq_true] at h
  exact h.imp (λ z=>beq_iff_eq.mp z) (λ z=>beq_iff_eq.mp z)
theorem isCF_of {k:Option NameKind} (h:k=some .cell∨k=some .free):isCF k=true:=by
  rcases h with rfl | rfl <;> rfl
noncomputable def blkCheck (scope osc:Scope) (N keys:List Str) (x:Str):Bool :=
  scope.kind == .function&&scope.names.all (λ y=>y.2 != .cell)&&scope.names.all (λ y=>y.2 != .local||scope.names.lookup y.1 == some .local)&&(scope.names.lookup x == some .local) &&
  decide (blkN x N).Nodup&&(relS scope osc).names.all (λ y=>!isCF ((relS scope osc).names.lookup y.1)||keys.contains y.1)&&!visB (relS scope osc) (accN N.length) &&
  N.all (λ y=>!visB (relS scope osc) (if y=x then dum N.length else y)||(decide (y≠x)&&isCF ((relS scope osc).names.lookup y)&&isCF (osc.names.lookup y)))
theorem mem_of_lookup {α:Type} {l:List (Str×α)} {x:Str} {a:α} (h:l.lookup x=some a):∃ p∈l,p.1=x/\p.2=a:=by
  induction l with
  | nil=>cases h
  | cons p l ih =>
    obtain ⟨y,b⟩:=p
    rw [List.lookup_cons] at h
    split at h
    · rename_i hx
      cases h
      exact ⟨_,List.mem_cons_self,(beq_iff_eq.mp hx).symm,rfl⟩
    · obtain ⟨p,hp,e⟩:=ih h
      exact ⟨p,List.mem_cons_of_mem _ hp,e⟩
theorem lookup_of_key {α:Type} {l:List (Str×α)} {x:Str} (h:(l.map (·.1)).contains x=true):∃ a,l.lookup x=some a:=by
  induction l with
  | nil=>cases h
  | cons p l ih =>
    obtain ⟨y,b⟩:=p
    rw [List.lookup_cons]
    by_cases hx:(x == y)=true
    · rw [hx]; exact ⟨b,rfl⟩
    · rw [Bool.eq_false_iff.mpr hx]
      apply ih
      rw [List.map_cons,List.contains_cons] at h
      rw [Bool.eq_false_iff.mpr hx,Bool.false_or] at h
      exact h
theorem blk_mk {X:Cx} {scope:Scope} {cl:List (Str×Addr)} {x:Str} (osc:Scope) (N keys:List Str) (e1:X.env.scope=osc) (e2:X.N=N) (clos:closureFor scope X.env=pure cl) (hk:keys.all (λ y=>(cl.map (·.1)).contains y)=true)
    (hc:∀ p∈cl,X.env.cells.lookup p.1=some p.2) (chk:blkCheck scope osc N keys x=true):BlkOk X scope cl x:=by
  subst e1 e2
  unfold blkCheck at chk
  simp only [Bool.and_eq_true] at chk
  obtain ⟨⟨⟨⟨⟨⟨⟨c1,c2⟩,c3⟩,c4⟩,c5⟩,c6⟩,c7⟩,c8⟩:=chk
  refine ⟨beq_iff_eq.mp c1,λ y hy=>?_,clos,λ y hy hl=>?_,beq_iff_eq.mp c4,of_decide_eq_true c5,λ y c h=>?_,λ y h=>?_,λ h=>?_,λ y hy _ hv=>?_⟩
  · exact bne_iff_ne.mp (List.all_eq_true.mp c2 y hy)
  · have:=List.all_eq_true.mp c3 y hy
    rw [hl] at this
    exact beq_iff_eq.mp (by simpa using this)
  · obtain ⟨p,hp,rfl,rfl⟩:=mem_of_lookup h
    exact hc p hp
  · have hcf:=isCF_of h
    rw [relS_eq] at hcf
    obtain ⟨k,hkk⟩:∃ k,(relS scope X.env.scope).names.lookup y=some k:=by
      rcases h with h | h
      · exact ⟨_,h⟩
      · exact ⟨_,h⟩
    obtain ⟨p,hp,rfl,_⟩:=mem_of_lookup hkk
    have:=List.all_eq_true.mp c6 p hp
    rw [hcf] at this
    exact lookup_of_key (List.all_eq_true.mp hk p.1 (List.contains_iff_mem.mp (by simpa using this)))
  · rw [relS_eq] at h
    rw [visB_of h] at c7
    cases c7
  · rw [relS_eq] at hv ⊢
    have:=List.all_eq_true.mp c8 y hy
    rw [visB_of hv] at this
    simp only [Bool.not_true,Bool.false_or,Bool.and_eq_true] at this
    exact ⟨of_decide_eq_true this.1.1,isCF_iff this.1.2,isCF_iff this.2⟩
noncomputable def gInt:String->Bool:=λ t=>t == "int"||t == "bool"
noncomputable def gBool:String->Bool:=λ t=>t == "bool"
noncomputable def gTuple:String->Bool:=λ t=>t == "tuple"
theorem kit_int (K:PySem.W.Frag) (d:D):PySem.W.kitOne K (.type (tyN d)) (.type "int")=some (gInt (tyN d)):=by cases d <;> kernel_rfl
theorem kit_bool (K:PySem.W.Frag) (d:D):PySem.W.kitOne K (.type (tyN d)) (.type "bool")=some (gBool (tyN d)):=by cases d <;> kernel_rfl
theorem kit_tuple (K:PySem.W.Frag) (d:D):PySem.W.kitOne K (.type (tyN d)) (.type "tuple")=some (gTuple (tyN d)):=by cases d <;> kernel_rfl
structure Def (K:PySem.W.Frag) (mg:Str->Option Value) (x:Str) (st:Stmt) (ps:List Str) (f:Addr) (fd:FuncData):Prop where
  fn:Fun K x x st f fd
  bd:Binds K fd ps []
  mg:mg x=some (.ref f)
theorem def_mk {K:PySem.W.Frag} {h:Heap} {mg:Str->Option Value} (X:K.In h) (G:h.Ns mainGlobals mg) {x:Str} {st:Stmt} {ps:List Str} {f:Addr} {oc:Value} {od an:Option Addr} {osl:Array (Option Value)} {kV doc pm cdv ct:Value}
    (a:PySem.W.nsIn K mainGlobals x=some (some (.ref f))) (l:K.lookup f=some ⟨oc,od,.func (PySem.W.fnOf x x (defArgs st) (defBody st) (defScope st) .none kV doc pm an cdv ct),osl⟩)
    (c:PySem.W.codeIn K cdv x=true) (k:PySem.W.keepIn K (.ref f)=true)
    (b:∀ (kV doc pm:Value) (an:Option Addr) (cdv ct:Value) (us:List Value),us.length=ps.length->bindArgs (PySem.W.fnOf x x (defArgs st) (defBody st) (defScope st) .none kV doc pm an cdv ct) ⟨us,[]⟩=pure (ps.zip us)) :
    ∃ fd,Def K mg x st ps f fd:=⟨_,fun_mk l c k,(fun_mk (st:=st) l c k).binds b,PySem.W.mg_of X G a⟩
noncomputable def spL (K:PySem.W.Frag) (F:List D->R D):Sp:=λ vs H Q E=>∃ (G:Hp) (ds:List D),Same G H/\TabIn K H G/\DenL K G ds vs/\ds.length=1/\(F ds).want (λ _=>False) (λ d=>∀ v H' G',Ext H G H' G'->Den K G' d v->Q v H')
theorem spL_of {K:PySem.W.Frag} {H G:Hp} {a:Addr} {ns:List Int} {F:List D->R D} {E:XK} (g:Same G H) (t:TabIn K H G) (h:SqL K G a (ns.map V.int)) (hF:F [.lst (ns.map D.int)]=.ok (.bl true)):spL K F [.ref a] H (λ v _=>v=.bl true) E:=by
  have l:∀ ns:List Int,DenL K G (ns.map D.int) (ns.map V.int):=λ ns=>by
    induction ns with
    | nil=>exact denL_nil.mpr rfl
    | cons n ns ih=>exact denL_cons.mpr ⟨_,_,rfl,den_int,ih⟩
  exact ⟨G,_,g,t,.one (den_lst.mpr ⟨a,_,rfl,h,l ns⟩),rfl,by rw [hF]; exact λ v H' G' _ d=>den_blE d⟩
theorem FnOk.toL {P:Program} {w:World} {K:PySem.W.Frag} {mg:Str->Option Value} {base:Heap} {CX:CXT} {k:Nat} {f:Addr} {fd:FuncData} {ps:List Str} {F:List D->R D} (h:FnOk P w K mg base CX k f fd ps (spF K mg 1 F)):FnOk P w K mg base CX k f fd ps (spL K F) :=
  h.imp λ vs H Q E ⟨G,ds,a,t,b,c,d⟩=>⟨G,ds,a,t,b,c,wImp d (λ _ z=>z.elim) λ _ z=>z⟩
theorem compR_map {f:Ga->R D} {Γ:Ga} {h:D->D}:∀ {ds:List D},(∀ d∈ds,f (.val d::.un::Γ)=.ok (h d))->compR cTrue f Γ ds=.ok (ds.map h)
  | [],_=>rfl
  | d::ds,H=>by
    unfold compR
    show (f (.val d::.un::Γ)).calm.bind _=_
    rw [H d List.mem_cons_self]
    show (compR _ f Γ ds).bind _=_
    rw [compR_map λ x hx=>H x (List.mem_cons_of_mem _ hx)]
    rfl
theorem compR_filter {c:Ga->R Bool} {f:Ga->R D} {Γ:Ga} {p:D->Bool} {h:D->D}:∀ {ds:List D},(∀ d∈ds,c (.val d::.un::Γ)=.ok (p d))->(∀ d∈ds,p d=true->f (.val d::.un::Γ)=.ok (h d))->compR c f Γ ds=.ok ((ds.filter p).map h)
  | [],_,_=>rfl
  | d::ds,H,H2=>by
    have ih:=compR_filter (c:=c) (f:=f) (Γ:=Γ) (p:=p) (h:=h) (ds:=ds) (λ x hx=>H x (List.mem_cons_of_mem _ hx)) (λ x hx=>H2 x (List.mem_cons_of_mem _ hx))
    unfold compR
    rw [H d List.mem_cons_self]
    cases hp:p d with
    | true =>
      rw [List.filter_cons_of_pos hp]
      show (f (.val d::.un::Γ)).calm.bind _=_
      rw [H2 d List.mem_cons_self hp]
      show (compR _ f Γ ds).bind _=_
      rw [ih]
      rfl
    | false =>
      rw [List.filter_cons_of_neg (by rw [hp]; exact Bool.false_ne_true)]
      exact ih
theorem asBs_map {α:Type} (g:α->Bool):∀ xs:List α,asBs (xs.map λ x=>D.bl (g x))=some (xs.map g)
  | []=>rfl
  | x::xs=>by
    show (asBs (xs.map λ x=>D.bl (g x))).bind _=_
    rw [asBs_map g xs]
    rfl
theorem whileN_inv {g:Ga->R Bool} {T:Ga->RS} (I:Nat->Ga->Prop) (E:RS->Prop)
    (turn:∀ m Γ,I m Γ->(g Γ=.ok false/\E (.nx Γ))∨(g Γ=.ok true/\((∃ Γ' m',(T Γ=.nx Γ'∨T Γ=.ct Γ')/\m' < m/\I m' Γ')∨(∃ Γ',T Γ=.bk Γ'/\E (.nx Γ'))∨(∃ d,T Γ=.rt d/\E (.rt d))∨(∃ c Γ',T Γ=.ex c Γ'/\E (.ex c Γ'))))) :
    ∀ (n m:Nat) (Γ:Ga),I m Γ->m < n->E (sWhileN g T n Γ)
  | 0,m,Γ,_,h=>by omega
  | n + 1,m,Γ,hI,h=>by
    unfold sWhileN
    rcases turn m Γ hI with ⟨hg,hE⟩ | ⟨hg,ht⟩
    · rw [hg]; exact hE
    · rw [hg]
      show E (match T Γ with
          | .nx Γ'=>sWhileN g T n Γ'
          | .ct Γ'=>sWhileN g T n Γ'
          | .bk Γ'=>.nx Γ'
          | r=>r)
      rcases ht with ⟨Γ',m',hT,hm,hI'⟩ | ⟨Γ',hT,hE⟩ | ⟨d,hT,hE⟩ | ⟨c,Γ',hT,hE⟩
      · rcases hT with hT | hT <;> (rw [hT]; exact whileN_inv I E turn n m' Γ' hI' (by omega))
      · rw [hT]; exact hE
      · rw [hT]; exact hE
      · rw [hT]; exact hE
theorem while_inv {g:Ga->R Bool} {T:Ga->RS} (I:Nat->Ga->Prop) (E:RS->Prop) {m:Nat} {Γ:Ga} (h0:I m Γ) (hm:m < FUEL)
    (turn:∀ m Γ,I m Γ->(g Γ=.ok false/\E (.nx Γ))∨(g Γ=.ok true/\((∃ Γ' m',(T Γ=.nx Γ'∨T Γ=.ct Γ')/\m' < m/\I m' Γ')∨(∃ Γ',T Γ=.bk Γ'/\E (.nx Γ'))∨(∃ d,T Γ=.rt d/\E (.rt d))∨(∃ c Γ',T Γ=.ex c Γ'/\E (.ex c Γ'))))) :
    E (sWhile g T Γ):=whileN_inv I E turn FUEL m Γ h0 hm
theorem fn_none {P:Program} {w:World} {K:PySem.W.Frag} {mg:Str->Option Value} {base:Heap} {CX:CXT} {k n:Nat} {f:Addr} {fd:FuncData} {ps:List Str}:FnOk P w K mg base CX k f fd ps (spF K mg n λ _=>.no):=by
  have no:∀ vs H Q E,¬ spF K mg n (λ _=>.no) vs H Q E:=λ vs H Q E ⟨G,ds,_,_,_,_,e⟩=>e
  exact ⟨λ vs H Q E z=>absurd z (no vs H Q E),λ A outer s H args us vs Q E _ _ _ _ z=>absurd z (no vs H Q E)⟩
structure Bas (K:PySem.W.Frag) (mg:Str->Option Value) (base:Heap):Prop where
  kin:K.In base
  ns:base.Ns mainGlobals mg
  bi:∃ bm ob,mg "__builtins__"=some (.ref bm)/\bm≠builtinsNs/\base.get? bm=some ob/\ob.cls=.type "module"/\ob.dict=some builtinsNs/\ob.data=.plain
  code:∀ y∈LAMS,∀ c P,PySem.W.tabIn K y=some (c,P)->PySem.W.CodeHd base c P
noncomputable def Tabs0 (K:PySem.W.Frag) (h:Heap):Prop:=∀ y∈LAMS,∀ c P,PySem.W.tabIn K y=some (c,P)->(PySem.W.CodeHd h c P/\h.get? P=some (PySem.W.tabObj #[]))/\K.lookup P=none
noncomputable def isTab (K:PySem.W.Frag) (b:Addr):Prop:=∃ y∈LAMS,∃ c,PySem.W.tabIn K y=some (c,b)
noncomputable def entryH (K:PySem.W.Frag) (G:Hp):Hp:=open Classical in λ b=>if isTab K b then some (.tbl #[]) else G b
theorem entryH_t {K:PySem.W.Frag} {G:Hp} {b:Addr} (h:isTab K b):entryH K G b=some (.tbl #[]):=by unfold entryH; rw [if_pos h]
theorem entryH_n {K:PySem.W.Frag} {G:Hp} {b:Addr} (h:¬ isTab K b):entryH K G b=G b:=by unfold entryH; rw [if_neg h]
theorem law_callT {P:Program} {w:World} {K:PySem.W.Frag} {mg mb:Str->Option Value} {CX:CXT} {k:Nat} {fa a:Addr} {fd:FuncData} {x:Str} {F:List D->R D} {s:Shared} {vs:List Value} {ns:List Int}
    (KX:K.In s.heap) (hns:s.heap.Ns mainGlobals mg) (hb:s.heap.Ns builtinsNs mb) (hbb:∀ x:Str,x≠"__name__"->mb x=bootBuiltins x) (hlim:s.heap.NoLimit) (hg:s.gens=#[])
    (hbi:∃ bm ob,mg "__builtins__"=some (.ref bm)/\bm≠builtinsNs/\s.heap.get? bm=some ob/\ob.cls=.type "module"/\ob.dict=some builtinsNs/\ob.data=.plain) (hT:Tabs0 K s.heap)
    (ha:s.heap.get? a=some { cls:=.type "list",data:=.seq vs.toArray }) (hi:IntsAre vs ns) (hl:ns.length<=sizeLine) (hr:Room k callerA)
    (Fn:∀ base:Heap,Bas K mg base->FnOk P w K mg base CX k fa fd [x] (spL K F)) (hbind:∀ (s:Shared) (u:Value),BindsTo s fd ⟨[u],[]⟩ [(x,u)]) (hF:F [.lst (ns.map D.int)]=.ok (.bl true))
    (hCX:∀ H e s',CX [] H s E0 e s'->False) :
    codeAny (model P w) callerA (.call (.ref fa) ⟨[.ref a],[]⟩) (λ r s'=>r=.ok (.ret (.bool true))/\OldK s.heap s'.heap/\s'.os=s.os/\AllBare s'.gens) s:=by
  have rv:=vals_ints hi
  have lenV:=hi.length
  have ta:¬ isTab K a:=λ ⟨y,hy,c,e⟩=>by
    have:=(hT y hy c a e).1.2
    rw [ha] at this
    cases this
  have core:∀ G:Hp,SqL K G a (ns.map V.int)->(∀ b,G b=none∨(b=a/\∃ o xs,G b=some (.frz o (.lst xs))/\s.heap.get? b=some o/\ObjOk P w G s.heap b (.lst xs)))->(G a≠none->K.lookup a=none) ->
      codeAny (model P w) callerA (.call (.ref fa) ⟨[.ref a],[]⟩) (λ r s'=>r=.ok (.ret (.bool true))/\OldK s.heap s'.heap/\s'.os=s.os/\AllBare s'.gens) s:=by
    intro G hS hG hK
    have tn:∀ b,isTab K b->G b=none:=λ b hb'=>by
      rcases hG b with z | ⟨z,_⟩
      · exact z
      · subst z; exact absurd hb' ta
    have gh:Same G (entryH K G):=λ b o e=>by
      by_cases z:isTab K b
      · rw [tn b z] at e; cases e
      · rw [entryH_n z]; exact e
    have tab:TabIn K (entryH K G) G:=λ y hy c P' e=>⟨tn _ ⟨y,hy,c,e⟩,#[],entryH_t ⟨y,hy,c,e⟩,trivial,λ pos v q=>by cases q⟩
    have hok:HOk P w (entryH K G) s.heap:=λ b u e=>by
      by_cases z:isTab K b
      · rw [entryH_t z] at e
        cases e
        obtain ⟨y,hy,c,e⟩:=z
        exact (hT y hy c b e).1.2
      · rw [entryH_n z] at e
        rcases hG b with q | ⟨_,o,xs,q,q2,q3⟩
        · rw [q] at e; cases e
        · rw [q] at e
          cases e
          exact ⟨q2,q3⟩
    have vis:∀ {b:Addr} {o:Obj},s.heap.get? b=some o->entryH K G b=none->(hidT s.heap (entryH K G)).get? b=some o:=λ e n=>hidT_get e n
    have free:∀ {b:Addr} {o:Obj},s.heap.get? b=some o->(∀ ps,o.data≠.fields ps)->(∀ its n,o.data≠.seq its n)->entryH K G b=none:=λ {b o} e n1 n2=>by
      by_cases z:isTab K b
      · obtain ⟨y,hy,c,q⟩:=z
        have:=(hT y hy c b q).1.2
        rw [e] at this
        cases this
        exact absurd rfl (n1 _)
      · rw [entryH_n z]
        rcases hG b with q | ⟨q,_⟩
        · exact q
        · subst q
          rw [ha] at e
          cases e
          exact absurd rfl (n2 _ _)
    have nsK:∀ {b:Addr} {m:Str->Option Value},s.heap.Ns b m->(hidT s.heap (entryH K G)).Ns b m:=λ {b m} ⟨o,es,ep,e,d,r⟩=>⟨o,es,ep,vis e (free e (λ _ z=>by rw [d] at z; cases z) λ _ _ z=>by rw [d] at z; cases z),d,r⟩
    have hKb:K.In (hidT s.heap (entryH K G)):=λ b o e=>vis (KX b o e) (by
      by_cases z:isTab K b
      · obtain ⟨y,hy,c,q⟩:=z
        rw [(hT y hy c b q).2] at e
        cases e
      · rw [entryH_n z]
        rcases hG b with q | ⟨q,o',xs,q2,_⟩
        · exact q
        · subst q
          rw [hK (by rw [q2]; simp)] at e
          cases e)
    have hM:Mod K mg (hidT s.heap (entryH K G)):=⟨hKb,nsK hns,⟨mb,nsK hb,hbb⟩,let ⟨mc,h1,h2⟩:=hlim; ⟨mc,nsK h1,h2⟩⟩
    have bas:Bas K mg (hidT s.heap (entryH K G)):=by
      refine ⟨hKb,nsK hns,?_,λ y hy c P' e=>?_⟩
      · obtain ⟨bm,ob,b1,b2,b3,b4,b5,b6⟩:=hbi
        exact ⟨bm,ob,b1,b2,vis b3 (free b3 (λ _ z=>by rw [b6] at z; cases z) λ _ _ z=>by rw [b6] at z; cases z),b4,b5,b6⟩
      · obtain ⟨o,vs',file,tf,flags,tg,inF,text,tt,e1,r1,r2,r3⟩:=(hT y hy c P' e).1.1
        refine ⟨o,vs',file,tf,flags,tg,inF,text,tt,vis e1 ?_,r1,r2,r3⟩
        by_cases z:isTab K c
        · obtain ⟨y2,hy2,c2,q⟩:=z
          have:=(hT y2 hy2 c2 c q).1.2
          rw [e1] at this
          cases this
          cases r1
        · rw [entryH_n z]
          rcases hG c with q | ⟨q,_⟩
          · exact q
          · subst q
            rw [ha] at e1
            cases e1
            injection r1 with z1
            exact absurd z1 (by decide)
    have e0:Env0 P w K mg (hidT s.heap (entryH K G)) callerA [] s (entryH K G):=⟨rfl,hM,λ b o e=>of_hidT e,Nat.le_of_eq (hidT_size _ _),trivial,λ b hb=>absurd (show b∈([]:List Addr) from hb) (by simp),hok,.of_eq hg⟩
    refine codeAny_mono ((Fn _ bas).run callerA [] s (entryH K G) ⟨[.ref a],[]⟩ [.ref a] [.ref a] _ _ hr e0 (hbind s (.ref a)) (.cons rfl .nil) (spL_of (E:=E0) gh tab hS hF)) λ r s' h=>?_
    cases r with
    | error e=>exact (hCX _ e s' h).elim
    | ok fl =>
      cases fl with
      | next=>exact False.elim h
      | brk=>exact False.elim h
      | cont=>exact False.elim h
      | ret u =>
        obtain ⟨v,H',os,bare,un,hok',r',q⟩:=h
        have q':v=.bl true:=q
        subst q'
        obtain rfl:u=Value.bool true:=r'
        refine ⟨rfl,⟨λ b o e=>?_,λ b o e=>un.there b o e (by simp)⟩,os,bare⟩
        cases q:entryH K G b with
        | none=>exact .inl (un.keep b o e q (by intro z; exact absurd (show b∈([]:List Addr) from z) (by simp)) (by simp))
        | some u =>
          by_cases z:isTab K b
          · obtain ⟨y,hy,c,qq⟩:=z
            obtain ⟨⟨cd,tb⟩,_⟩:=hT y hy c b qq
            rw [e] at tb
            cases tb
            obtain ⟨more,hm⟩:=un.tbls b #[] (entryH_t ⟨y,hy,c,qq⟩)
            have hx:s'.heap.get? b=some { cls:=.none,data:=.fields (#[]++more) }:=hok' b _ hm
            refine .inr (.inl ⟨?_,rfl,#[],more,rfl,hx⟩)
            obtain ⟨o,vs',_,_,_,_,_,_,_,e1,r1,r2,r3,_⟩:=cd
            exact ⟨c,o,vs',e1,r1,r2,r3⟩
          · rw [entryH_n z] at q
            rcases hG b with y | ⟨_,o',xs,y,y2,_⟩
            · rw [y] at q; cases q
            · have z2:=un.frzs b o' _ ((entryH_n z).trans y)
              obtain ⟨e2,_⟩:=hok' b _ z2
              rw [e] at y2
              cases y2
              exact .inl e2
  cases hk:K.lookup a with
  | some o =>
    have e:=KX a o hk
    rw [ha] at e
    cases e
    exact core (λ _=>none) (.inr ⟨_,vs.toArray,_,hk,rfl,rfl,rfl,by rw [List.size_toArray,lenV]; exact hl,by simpa using rv⟩) (λ b=>.inl rfl) λ z=>absurd rfl z
  | none =>
    refine core (λ b=>if b=a then some (.frz { cls:=.type "list",data:=.seq vs.toArray } (.lst (ns.map V.int))) else none) (.inl (.inr ⟨{ cls:=.type "list",data:=.seq vs.toArray },if_pos rfl⟩)) (λ b=>?_) λ _=>hk
    by_cases hb:b=a
    · exact .inr ⟨hb,_,_,if_pos hb,by rw [hb]; exact ha,by rw [List.length_map]; exact hl,vs,_,rv,by rw [hb]; exact ha⟩
    · exact .inl (if_neg hb)
theorem walk {l:PySem.W.OpenLaw} {CX:World->CXT} {k:Nat} {x:Str} {F:List D->R D} {q:Program} {loose:List Str} {XP:(Str->Option Value)->Heap->Prop} {YP:World->Heap->Prop} {d:DefRec} {K:Params->PySem.W.Frag} (hn:l.most=some 63) (hdf:d.params.defaults=[]) (hr:Room k callerA)
    (hY:∀ (w:World) (h:Heap),YP w h->(K w.params).In h) (hF:∀ ns:List Int,ns.length<=63->F [.lst (ns.map D.int)]=.ok (.bl true))
    (hT:∀ (w:World) (lo:List Str) (mean:ExcName->Option Value) (mg mb:Str->Option Value) (h:Heap),Top q lo mean mg mb h->(K w.params).In h->Tabs0 (K w.params) h)
    (A:∀ (w:World) (mg:Str->Option Value) (fa:Addr) (h:Heap),(K w.params).In h->h.Ns mainGlobals mg->mg d.name=some (.ref fa) ->
      ∃ fd:FuncData,(∀ (s:Shared) (u:Value),BindsTo s fd ⟨[u],[]⟩ [(x,u)])/\∀ base:Heap,Bas (K w.params) mg base->FnOk l.prog w (K w.params) mg base (CX w) k fa fd [x] (spL (K w.params) F))
    (hCX:∀ (w:World) (H:Hp) (s:Shared) (e:Value) (s':Shared),CX w [] H s E0 e s'->False) :
    PySem.W.WalkO q loose XP YP l.row.toRowW d [] (λ f vs=>PySem.call f vs):=by
  refine Att.attach_call hn hdf λ w s₀ s₁ mg mb fa o pm cd doc a vs ns G Y ho hd hcd hmg hobj hints hlen hg=>?_
  have KX:=hY w _ Y
  obtain ⟨fd,hb,hFn⟩:=A w mg fa _ KX G.T.g hmg
  exact law_callT KX G.T.g G.T.b G.T.builtins G.T.nolimit hg G.T.bmain (hT w _ _ _ _ _ G.T KX) hobj hints (Nat.le_trans hlen (by decide)) hr hFn hb (hF ns hlen) λ H e s'=>hCX w H s₁ e s'
end Wy


namespace Wy
open PySem PySem.Spec PyProof.Rows L2
section
variable {X:Cx}
theorem op_cat0:OpR X (binaryOp .Add) (λ x y H Q=>∃ a b ys,x=.ref a/\y=.ref b/\SqT X.K H a []/\SqT X.K H b ys/\Q (.ref b) H):=by
  rintro pins s σ H x y v u Q I rx ry ⟨a,b,ys,rfl,rfl,ha,hb,q⟩
  obtain rfl:v=Value.ref a:=rx
  obtain rfl:u=Value.ref b:=ry
  obtain ⟨ia,ra,⟨⟨c1,d1,t1,s1⟩,g1,hc1,n1,hd1⟩,_⟩:=I.tuple ha
  obtain ⟨ib,rb,⟨⟨c2,d2,t2,s2⟩,g2,hc2,n2,hd2⟩,_⟩:=I.tuple hb
  cases ra
  cases hc1
  cases hd1
  cases hc2
  cases hd2
  exact concat_meets ⟨_,g1,rfl⟩ ⟨_,g2,rfl⟩ noFill_tuple_add seq_tuple_add PySem.F.slot_tuple_add PySem.F.entry_tuple_add (PySem.F.args_tuple_add_2 _ _) (tuple_addW0 a b _ ib.toArray n1 n2 d1 d2 s1 s2 rfl) ⟨g1,g2,.ref b,H,I,rfl,q⟩
noncomputable def catD:D->D->Option D
  | .tup xs,.tup ys=>if 100000 < xs.length + ys.length then none else some (.tup (xs++ys))
  | _,_=>none
theorem opd_cat:OpD X (binaryOp .Add) catD:=⟨_,op_cat0.or op_catT,λ H G x y d1 d2 d g h1 h2 e Q q=>by
  unfold catD at e
  split at e
  · rename_i xs ys
    split at e
    · cases e
    · rename_i hz
      cases e
      obtain ⟨a,vs,rfl,sa,la⟩:=den_tup.mp h1
      obtain ⟨b,us,rfl,sb,lb⟩:=den_tup.mp h2
      cases xs with
      | nil =>
        cases denL_nil.mp la
        exact .inl ⟨a,b,us,rfl,rfl,Same.seqT g sa,Same.seqT g sb,q _ H G (.refl g) h2⟩
      | cons x1 xs =>
        have zv:vs≠[]:=λ z=>by have:=la.length; rw [z] at this; cases this
        refine .inr ⟨a,b,vs,us,rfl,rfl,Same.seqT g sa,Same.seqT g sb,zv,by rw [<- la.length,<- lb.length]; exact Nat.le_trans (Nat.le_of_not_lt hz) (by decide),λ z=>?_,λ z p hp=>?_⟩
        · have:ys=[]:=List.length_eq_zero_iff.mp (by rw [lb.length,z]; rfl)
          subst this
          exact q _ H G (.refl g) (by rw [List.append_nil]; exact h1)
        · have A:=Ext.alloc (o:=.tup (vs++us)) g hp
          exact q _ _ _ A (den_tup.mpr ⟨p,_,rfl,SqT.of upd_same,(la.append lb).up A.gg⟩)
  · cases e⟩
end
section
variable {prog:Program} {w:World} {A:Around} {E:Value->Shared->Prop} {s:Shared}
theorem nextT_item {j t:Addr} {k:Nat} {its:Array Value} {v:Value} {Q:Value->Shared->Prop} (hj:s.heap.IsTupleIter j t k) (ht:s.heap.IsTuple t its) (hv:its[k]?=some v)
    (go:∀ h',h'.IsTupleIter j t (k + 1)->Heap.SameBut j s.heap h'->Q v { s with heap:=h' }):wpAny (model prog w) A (Builtin.SmallTypes.nextOf (.ref j)) Q E s:=by
  obtain ⟨oj,gj,cj,dj⟩:=id hj
  obtain ⟨ot,gt,_,nt,dt⟩:=ht
  unfold Builtin.SmallTypes.nextOf
  refine wpAny_bind (wpAny_callSpecial?_slot (name:=Str.ofString "__next__") hj.typeIs F.slot_tuple_iterator_next (wpAny_call_entry F.slot_tuple_iterator_next hj.typeIs F.entry_tuple_iterator_next ?_ (F.args_tuple_iterator_next_1 _)))
  refine wpAny_bind (m:=field (.ref j) 0) (wpAny_field gj dj (x:=.ref t) rfl ?_)
  show wpAny _ _ (if (Value.ref t == Value.none)=true then _ else _) _ _ s
  rw [if_neg (show ¬ ((Value.ref t == Value.none)=true) by exact Bool.false_ne_true)]
  refine wpAny_bind (m:=field (.ref j) 1) (wpAny_field gj dj (x:=.int k 0) rfl (wpAny_bind (m:=seqItems? (.ref t)) (wpAny_seqItems gt dt ?_)))
  simp only [hv,Int.toNat_natCast]
  refine wpAny_bind (wpAny_setField gj dj (by simp) (wpAny_pure ⟨v,rfl,wpAny_pure (go _ ⟨_,Heap.get?_update_self _ gj (Obj.isFreed_of_fields (Obj.data_mapFields dj _)),(Obj.cls_mapFields ..).trans cj,?_⟩ (Heap.SameBut.update ..))⟩))
  rw [Obj.data_mapFields dj]
  simp [rawInt]
theorem nextT_stop {j t:Addr} {k:Nat} {its:Array Value} {Q:Value->Shared->Prop} (hh:A.handled=none) (hj:s.heap.IsTupleIter j t k) (ht:s.heap.IsTuple t its) (hv:its[k]?=none)
    (go:∀ h' x,Heap.ExtBut j s.heap h'->(∃ o,h'.get? x=some o/\o.cls=.type "StopIteration")->E (.ref x) { s with heap:=h' }):wpAny (model prog w) A (Builtin.SmallTypes.nextOf (.ref j)) Q E s:=by
  obtain ⟨oj,gj,cj,dj⟩:=id hj
  obtain ⟨ot,gt,_,nt,dt⟩:=ht
  unfold Builtin.SmallTypes.nextOf
  refine wpAny_bind (wpAny_callSpecial?_slot (name:=Str.ofString "__next__") hj.typeIs F.slot_tuple_iterator_next (wpAny_call_entry F.slot_tuple_iterator_next hj.typeIs F.entry_tuple_iterator_next ?_ (F.args_tuple_iterator_next_1 _)))
  refine wpAny_bind (m:=field (.ref j) 0) (wpAny_field gj dj (x:=.ref t) rfl ?_)
  show wpAny _ _ (if (Value.ref t == Value.none)=true then _ else _) _ _ s
  rw [if_neg (show ¬ ((Value.ref t == Value.none)=true) by exact Bool.false_ne_true)]
  refine wpAny_bind (m:=field (.ref j) 1) (wpAny_field gj dj (x:=.int k 0) rfl (wpAny_bind (m:=seqItems? (.ref t)) (wpAny_seqItems gt dt ?_)))
  simp only [hv,Int.toNat_natCast]
  refine wpAny_bind (wpAny_rule (wpAny_bind (wpAny_setField gj dj (by simp) ?_)))
  refine wpAny_bind (m:=newExc (.type "StopIteration") []) ?_
  simp only [newExc,newTuple]
  refine wpAny_bind (wpAny_newObj_type (wpAny_bind (m:=firstArgMember _ _) (wpAny_of_eq (a:=Value.none) (by first | rfl | (simp only [firstArgMember]; rfl)) (wpAny_newObj_type ?_ (by size_fits)))) (by size_fits))
  simp only [raiseNew]
  refine wpAny_bind (wpAny_handled ?_)
  first | rw [show A.in1.handled=none from hh] | rw [hh]
  exact wpAny_bind (wpAny_pure (wpAny_throw (go _ _ (((Heap.SameBut.update ..).extBut.push _).push _) ⟨_,Heap.get?_push_size _ rfl,rfl⟩)))
theorem enum_turn {e j:Addr} {k:Nat} {v old:Value} {R:Heap->Prop} {Q:Value->Shared->Prop} (he:IsEnum s.heap e j k old) (hne:e≠j)
    (nx:∀ (Q':Value->Shared->Prop),(∀ h1,R h1->Heap.SameBut j s.heap h1->Q' v { s with heap:=h1 })->wpAny (model prog w) A (Builtin.SmallTypes.nextOf (.ref j)) Q' E s)
    (stay:∀ h h',R h->(∀ o,h.get? j=some o->h'.get? j=some o)->R h')
    (go:∀ h',IsEnumOut h' e j ((k:Int) + 1) v s.heap.objs.size->R h'->h'.get? s.heap.objs.size=some { cls:=.type "tuple",data:=.seq #[.int k s.toks,v] } ->
      (∀ b o,b≠e->b≠j->s.heap.get? b=some o->h'.get? b=some o)->Q (.ref s.heap.objs.size) { s with heap:=h',toks:=s.toks + 1 }) :
    wpAny (model prog w) A (Builtin.«enumerate.__next__» ⟨[.ref e],[]⟩) (λ fin s'=>∃ x,fin=.done (.ret x)/\Q x s') E s:=by
  obtain ⟨h0,gs,dr,tk,os⟩:=s
  have le:e < h0.objs.size:=Heap.lt_size he
  refine wpAny_bind (m:=field (.ref e) 2) (wpAny_field he rfl (x:=.ref j) rfl (wpAny_bind (nx _ λ h1 r1 b1=>?_)))
  have b1:Heap.SameBut j h0 h1:=b1
  have e1:IsEnum h1 e j k old:=(b1.2 e hne).trans he
  refine wpAny_bind (m:=field (.ref e) 3) (wpAny_field e1 rfl (x:=rawInt k) rfl (wpAny_bind (m:=field (.ref e) 4) (wpAny_field e1 rfl (x:=.none) rfl (wpAny_bind (m:=mkInt k) (wpAny_mkInt ?_)))))
  refine wpAny_bind (m:=setField (.ref e) 3 (rawInt ((k:Int) + 1))) (wpAny_setField_rec e1 (by simp) λ h2 e2 b2=>?_)
  have b2:Heap.SameBut e h1 h2:=b2
  have e2:IsEnum h2 e j ((k:Int) + 1) old:=e2
  refine wpAny_bind (m:=setField (.ref e) 4 .none) (wpAny_setField_rec e2 (by simp) λ h3 e3 b3=>?_)
  have b3:Heap.SameBut e h2 h3:=b3
  have e3:IsEnum h3 e j ((k:Int) + 1) old:=e3
  refine wpAny_bind (m:=newTuple [.int k tk,v]) (wpAny_newTuple ?_)
  have z3:h3.objs.size=h0.objs.size:=by rw [b3.1,b2.1,b1.1]
  rw [show (Value.ref (Shared.heap ⟨h3,gs,dr,tk + 1,os⟩).objs.size)=Value.ref h0.objs.size from congrArg Value.ref z3]
  have e4:IsEnum (h3.push { cls:=.type "tuple",data:=.seq #[.int k tk,v] }) e j ((k:Int) + 1) old:=Heap.get?_push_of_some _ e3
  have t4:(h3.push { cls:=.type "tuple",data:=.seq #[.int k tk,v] }).get? h0.objs.size=some { cls:=.type "tuple",data:=.seq #[.int k tk,v] }:=by rw [<- z3]; exact Heap.get?_push_size _ rfl
  have old4:∀ b o,b≠e->b≠j->h0.get? b=some o->(h3.push { cls:=.type "tuple",data:=.seq #[.int k tk,v] }).get? b=some o:=λ b o hb hb' g=>Heap.get?_push_of_some _ (b3.extBut b o hb (b2.extBut b o hb (b1.extBut b o hb' g)))
  have r4:R (h3.push { cls:=.type "tuple",data:=.seq #[.int k tk,v] }):=stay h1 _ r1 λ o g=>Heap.get?_push_of_some _ (b3.extBut j o (Ne.symm hne) (b2.extBut j o (Ne.symm hne) g))
  generalize h3.push { cls:=.type "tuple",data:=.seq #[.int k tk,v] }=h4 at e4 t4 old4 r4
  refine wpAny_bind (m:=Builtin.SmallTypes.ownedTupleIsFree (.ref e)) ?_
  unfold Builtin.SmallTypes.ownedTupleIsFree
  refine wpAny_bind (wpAny_field e4 rfl (x:=.none) rfl (wpAny_pure ?_))
  simp only [if_true]
  refine wpAny_bind (wpAny_rule (wpAny_bind (wpAny_field e4 rfl (x:=old) rfl (wpAny_bind (wpAny_setField_rec e4 (by simp) λ h5 e5 b5=>?_)))))
  have b5:Heap.SameBut e h4 h5:=b5
  have e5:IsEnum h5 e j ((k:Int) + 1) v:=e5
  refine wpAny_bind (m:=Builtin.SmallTypes.ownedTupleHandOut (.ref e) (.ref h0.objs.size)) ?_
  unfold Builtin.SmallTypes.ownedTupleHandOut
  refine wpAny_bind (wpAny_setField_rec e5 (by simp) λ h6 e6 b6=>?_)
  have b6:Heap.SameBut e h5 h6:=b6
  have e6:IsEnumOut h6 e j ((k:Int) + 1) v h0.objs.size:=e6
  refine wpAny_setField_rec e6 (by simp) λ h7 e7 b7=>?_
  have b7:Heap.SameBut e h6 h7:=b7
  have all:∀ b o,b≠e->h4.get? b=some o->h7.get? b=some o:=λ b o hb g=>b7.extBut b o hb (b6.extBut b o hb (b5.extBut b o hb g))
  exact wpAny_bind (wpAny_letGo (wpAny_pure ⟨_,rfl,go h7 e7 (stay h4 h7 r4 λ o g=>all j o (Ne.symm hne) g) (all _ _ (Nat.ne_of_gt le) t4) λ b o hb hb' g=>all b o hb (old4 b o hb hb' g)⟩))
theorem enum_item {e j:Addr} {k:Nat} {v old:Value} {R:Heap->Prop} {Q:Option Value->Shared->Prop} (he:IsEnum s.heap e j k old) (hne:e≠j)
    (nx:∀ (A':Around) (Q':Value->Shared->Prop) (E':Value->Shared->Prop),(∀ h1,R h1->Heap.SameBut j s.heap h1->Q' v { s with heap:=h1 })->wpAny (model prog w) A' (Builtin.SmallTypes.nextOf (.ref j)) Q' E' s)
    (stay:∀ h h',R h->(∀ o,h.get? j=some o->h'.get? j=some o)->R h')
    (go:∀ h',IsEnumOut h' e j ((k:Int) + 1) v s.heap.objs.size->R h'->h'.get? s.heap.objs.size=some { cls:=.type "tuple",data:=.seq #[.int k s.toks,v] } ->
      (∀ b o,b≠e->b≠j->s.heap.get? b=some o->h'.get? b=some o)->Q (some (.ref s.heap.objs.size)) { s with heap:=h',toks:=s.toks + 1 }):wpAny (model prog w) A (pyNext (.ref e)) Q E s:=by
  have ty:s.TypeIs (.ref e) "enumerate":=⟨_,he,rfl⟩
  unfold pyNext
  exact wpAny_bind (wpAny_attempt (wpAny_callSpecial?_slot (name:=Str.ofString "__next__") ty F.slot_enumerate_next (wpAny_call_entry F.slot_enumerate_next ty F.entry_enumerate_next
    (enum_turn he hne (λ Q' hq=>nx _ Q' _ hq) stay λ h' x1 x2 x3 x4=>wpAny_pure (go h' x1 x2 x3 x4)) (F.args_enumerate_next_1 _))))
theorem enum_stop {e j:Addr} {k:Nat} {old:Value} {Q:Option Value->Shared->Prop} (he:IsEnum s.heap e j k old)
    (nx:∀ (A':Around) (Q':Value->Shared->Prop) (E':Value->Shared->Prop),A'.handled=A.handled->(∀ h' x,Heap.ExtBut j s.heap h'->(∃ o,h'.get? x=some o/\o.cls=.type "StopIteration")->E' (.ref x) { s with heap:=h' })->wpAny (model prog w) A' (Builtin.SmallTypes.nextOf (.ref j)) Q' E' s)
    (go:∀ h',Heap.ExtBut j s.heap h'->Q none { s with heap:=h' }):wpAny (model prog w) A (pyNext (.ref e)) Q E s:=by
  have ty:s.TypeIs (.ref e) "enumerate":=⟨_,he,rfl⟩
  unfold pyNext
  refine wpAny_bind (wpAny_attempt (wpAny_callSpecial?_slot (name:=Str.ofString "__next__") ty F.slot_enumerate_next (wpAny_call_entry F.slot_enumerate_next ty F.entry_enumerate_next ?_ (F.args_enumerate_next_1 _))))
  refine wpAny_bind (m:=field (.ref e) 2) (wpAny_field he rfl (x:=.ref j) rfl (wpAny_bind (nx _ _ _ rfl λ h' x b hx=>?_)))
  obtain ⟨o,go',hc⟩:=hx
  exact wpAny_bind (wpAny_isInstance (T:="StopIteration") (b:=true) ⟨o,go',hc⟩ isSubtype_stop (wpAny_pure (go _ b)))
end
section
open PySem.AutoSeq1 (wpAny_loadPart')
theorem meets_enumT (t:Addr) (its:Array Value) (n:Nat) (dd:Option Addr) (sl:Array (Option Value)):Meets (Builtin.«enumerate.__new__» ⟨[.type "enumerate",.ref t],[]⟩) (λ _ R s=>s.heap.get? t=some { cls:=.type "tuple",dict:=dd,data:=.seq its n,slots:=sl } /\
    R (.ok (.ret (.ref (s.heap.push { cls:=.type "tuple_iterator",data:=.fields #[.ref t,.int 0 0] }).objs.size))) { s with heap:=(s.heap.push { cls:=.type "tuple_iterator",data:=.fields #[.ref t,.int 0 0] }).push { cls:=.type "enumerate",data:=.fields #[.none,.bool false,.ref s.heap.objs.size,rawInt 0,.none,.none] } }) :=
  .of_wp λ prog w A R s hh=>by
    obtain ⟨h0,gs,dr,tk,os⟩:=s
    obtain ⟨gt,hR⟩:=hh
    have se:=sub_enumerate
    have iT:Heap.IsTuple (Shared.heap ⟨h0,gs,dr,tk,os⟩) t its:=⟨_,gt,rfl,n,rfl⟩
    wp_walk using wpAny_loadPart' gt
    refine wpAny_stack_any λ st=>wpAny_pure ?_
    split
    · rename_i c _ _ _ _ _
      cases (c == Value.type "enumerate") <;> (wp_walk using wpAny_loadPart' gt,wpAny_pyIter_tuple iT; exact ⟨_,rfl,hR⟩)
    · wp_walk using wpAny_loadPart' gt,wpAny_pyIter_tuple iT
      exact ⟨_,rfl,hR⟩
end
noncomputable def SqQ (K:PySem.W.Frag) (q:Bool) (H:Hp) (a:Addr) (xs:List V):Prop:=match q with
  | true=>SqT K H a xs
  | false=>SqL K H a xs
noncomputable def innerQ (q:Bool) (j a:Addr) (i:Nat) (h:Heap):Prop:=match q with
  | true=>h.IsTupleIter j a i
  | false=>h.IsListIter j a i
noncomputable def Ite (K:PySem.W.Frag) (q:Bool) (a:Addr):It :=
  ⟨λ i H=>∃ xs x,SqQ K q H a xs/\xs[i]?=some x,λ i H x H'=>∃ p v,H p=none/\H'=upd H p (.tup [.int i,v])/\x=.ref p/\∀ xs,SqQ K q H a xs->xs[i]?=some v,λ i H=>∃ xs,SqQ K q H a xs/\xs.length<=i⟩
section
variable {X:Cx} {pins:List (Addr×Obj)} {σ:L2.St} {H:Hp} {s:Shared}
theorem Inv.enumd {e j:Addr} {i:Nat} {x:V} {u:Value} {h':Heap} {t' tk:Nat} (I:L2.Inv X pins σ H s) (fe:FpOk X pins H e) (fj:FpOk X pins H j) (ru:RelV x u) (hp:h'.get? s.heap.objs.size=some { cls:=.type "tuple",data:=.seq #[.int i tk,u] })
    (kp:∀ b o,b≠e->b≠j->s.heap.get? b=some o->h'.get? b=some o) (th:∀ b o,s.heap.get? b=some o->∃ o',h'.get? b=some o'):L2.Inv X pins σ (upd H s.heap.objs.size (.tup [.int i,x])) { s with heap:=h',toks:=t' }:=by
  have fr:H s.heap.objs.size=none:=I.fresh
  have ne:∀ b o,s.heap.get? b=some o->b≠s.heap.objs.size:=λ b o g=>Nat.ne_of_lt (Heap.lt_size g)
  have nh:∀ b o,H b=some o->b≠s.heap.objs.size:=λ b o g z=>by rw [z,fr] at g; cases g
  have nf:∀ b o,H b=some o->b≠e/\b≠j:=λ b o g=>⟨λ z=>(by rw [z,fe.1] at g; cases g),λ z=>(by rw [z,fj.1] at g; cases g)⟩
  have nch:∀ b,b∉[e,j]->b≠e/\b≠j:=λ b h=>⟨λ z=>h (by simp [z]),λ z=>h (by simp [z])⟩
  refine I.step (g':=s.gens) (d':=s.drawn) (ch:=[e,j]) (λ b hb=>?_) (λ b o _ _ hc g _=>kp b o (nch b hc).1 (nch b hc).2 g) (λ b o _ _ hc g _=>⟨o.slots,kp b o (nch b hc).1 (nch b hc).2 g⟩) (λ b o _ g n=>by rw [upd_ne (ne b o g)]; exact n)
    (λ b o _ g=>th b o g) (λ b ys g=>by rw [upd_ne (nh b _ g)]; exact g) (λ b o ys g=>by rw [upd_ne (nh b _ g)]; exact g) (λ b ps g=>⟨#[],by rw [upd_ne (nh b _ g),g]; simp⟩) (λ m hm=>?_) (λ b o g=>?_) I.bare
  · rcases List.mem_cons.mp hb with z | hb
    · subst z; exact ⟨fe.2.2.2.1,fe.2.1,fe.2.2.2.2.1,fe.2.2.2.2.2⟩
    · rcases List.mem_cons.mp hb with z | hb
      · subst z; exact ⟨fj.2.2.2.1,fj.2.1,fj.2.2.2.2.1,fj.2.2.2.2.2⟩
      · cases hb
  · obtain ⟨o,es,ep,g,r⟩:=hm
    exact ⟨o,es,ep,kp _ o (Ne.symm fe.2.1) (Ne.symm fj.2.1) g,r⟩
  · by_cases z:b=s.heap.objs.size
    · subst z
      rw [upd_same] at g
      cases g
      exact ⟨(by show 2<=sizeLine; decide),[.int i tk,u],.cons ⟨tk,rfl⟩ (.cons ru .nil),_,hp,rfl,_,rfl⟩
    · rw [upd_ne z] at g
      have keepH:∀ c o,H c=some o->upd H s.heap.objs.size (.tup [.int i,x]) c=some o:=λ c o gc=>by rw [upd_ne (nh c o gc)]; exact gc
      refine (I.hok b o g).stay (λ c v hc gv=>?_) (λ c gc=>keepH c _ gc) λ c ys gc=>keepH c _ gc
      rcases hc with z' | z'
      · subst z'; exact kp c v (nf c o g).1 (nf c o g).2 gv
      · exact kp c v (nf c _ z').1 (nf c _ z').2 gv
end
theorem there_enum {e j p:Addr} {h h1 h2:Heap} (a:∀ b o,b≠e->b≠j->h.get? b=some o->h1.get? b=some o) (ej:∃ o,h1.get? e=some o) (jj:∃ o,h1.get? j=some o) (sb:Heap.SameBut e h1 h2) (e2:∃ o,h2.get? e=some o):∀ b o,h.get? b=some o->∃ o',h2.get? b=some o':=λ b o g=>by
  by_cases z:b=e
  · subst z; exact e2
  · by_cases z':b=j
    · subst z'
      obtain ⟨o',g'⟩:=jj
      exact ⟨o',(sb.2 b z).trans g'⟩
    · exact ⟨o,(sb.2 b z).trans (a b o z z' g)⟩
theorem inner_at {q:Bool} {j a:Addr} {i:Nat} {h h':Heap} (st:innerQ q j a i h) (k:∀ o,h.get? j=some o->h'.get? j=some o):innerQ q j a i h':=by
  cases q with
  | true=>exact Heap.IsTupleIter.at st k
  | false=>exact Heap.IsListIter.at st k
theorem inner_there {q:Bool} {j a:Addr} {i:Nat} {h:Heap} (st:innerQ q j a i h):∃ o,h.get? j=some o/\∀ v,o.data≠.cell v:=by
  cases q with
  | true=>obtain ⟨o,g,_,d⟩:=st; exact ⟨o,g,λ v z=>by rw [d] at z; cases z⟩
  | false=>obtain ⟨o,g,_,d⟩:=st; exact ⟨o,g,λ v z=>by rw [d] at z; cases z⟩
theorem turn_enum {P:Program} {w:World} {K:PySem.W.Frag} {elts:List Expr} {x1:Nat} {pos:Pos} (q:Bool) (a e j:Addr) (hej:e≠j):Turn P w K (.Tuple elts x1 pos) (Ite K q a) [e,j] e (λ i h=>(∃ old,IsEnum h e j i old)/\innerQ q j a i h) where
  mem:=by simp
  obj:=λ i h st b hb=>by
    rcases List.mem_cons.mp hb with z | hb
    · subst z
      obtain ⟨⟨old,g⟩,_⟩:=st
      exact ⟨_,g,λ v z=>by have z':Data.fields _=Data.cell v:=z; cases z'⟩
    · have z:b=j:=by simpa using hb
      subst z
      exact inner_there st.2
  keep:=λ i h h' st k=>by
    obtain ⟨⟨old,g⟩,st⟩:=st
    exact ⟨⟨old,k e (by simp) _ g⟩,inner_at st λ o g=>k j (by simp) o g⟩
  item:=by
    intro X hP hw hK hc i pins s σ H E I hf st hg
    subst hP hw hK
    obtain ⟨⟨old,he⟩,st⟩:=st
    obtain ⟨xs,x,hq,hx⟩:=hg
    have fe:=hf e (by simp)
    have fj:=hf j (by simp)
    have fin:∀ u,RelV x u->∀ h',IsEnumOut h' e j ((i:Int) + 1) u s.heap.objs.size->innerQ q j a (i + 1) h'->h'.get? s.heap.objs.size=some { cls:=.type "tuple",data:=.seq #[.int i s.toks,u] } ->
        (∀ b o,b≠e->b≠j->s.heap.get? b=some o->h'.get? b=some o)->(∀ ys,SqQ X.K q H a ys->ys[i]?=some x)->∃ v,some (Value.ref s.heap.objs.size)=some v/\wpAny (model X.prog X.w) X.A (letOwnedTupleGo (.Tuple elts x1 pos) (.ref e) v)
          (λ _ s2=>∃ x H',L2.Inv X pins σ H' s2/\RelV x v/\(Ite X.K q a).yld i H x H'/\((∃ old,IsEnum s2.heap e j ((i + 1:Nat):Int) old)/\innerQ q j a (i + 1) s2.heap)/\∀ b∈[e,j],H' b=none) E { s with heap:=h',toks:=s.toks + 1 }:=λ u ru h' ho hin hp kp hy=>by
      refine ⟨_,rfl,wpAny_letOwnedTupleGo_enum (s:={ s with heap:=h',toks:=s.toks + 1 }) ho λ h2 he2 sb=>?_⟩
      have sb:Heap.SameBut e h' h2:=sb
      obtain ⟨oj,gj,_⟩:=inner_there hin
      have le:e < s.heap.objs.size:=Heap.lt_size he
      have lj:j < s.heap.objs.size:=by obtain ⟨o,g,_⟩:=inner_there st; exact Heap.lt_size g
      refine ⟨.ref s.heap.objs.size,upd H s.heap.objs.size (.tup [.int i,x]),Inv.enumd (tk:=s.toks) (t':=s.toks + 1) I fe fj ru ((sb.2 _ (Nat.ne_of_gt le)).trans hp) (λ b o hb hb' g=>(sb.2 b hb).trans (kp b o hb hb' g)) (there_enum (p:=e) kp ⟨_,ho⟩ ⟨oj,gj⟩ sb ⟨_,he2⟩),rfl,
        ⟨_,x,I.fresh,rfl,rfl,hy⟩,⟨⟨u,he2⟩,inner_at hin λ o g=>(sb.2 j (Ne.symm hej)).trans g⟩,λ b hb=>?_⟩
      rcases List.mem_cons.mp hb with z | hb
      · subst z; rw [upd_ne (Nat.ne_of_lt le)]; exact fe.1
      · have z:b=j:=by simpa using hb
        subst z; rw [upd_ne (Nat.ne_of_lt lj)]; exact fj.1
    cases q with
    | true =>
      obtain ⟨its,rv,p,hz⟩:=I.tuple hq
      obtain ⟨u,hu,ru⟩:=rv.get hx
      exact enum_item (R:=innerQ true j a (i + 1)) he hej (λ A' Q' E' hq'=>nextT_item st (show s.heap.IsTuple a its.toArray from p) (by simpa using hu) hq') (λ h h' r k=>inner_at r k) λ h' x1 x2 x3 x4=>fin u ru h' x1 x2 x3 x4 λ ys hys=>by rw [I.tuple_inj hys hq]; exact hx
    | false =>
      obtain ⟨its,rv,p,hz⟩:=I.list hq
      obtain ⟨u,hu,ru⟩:=rv.get hx
      exact enum_item (R:=innerQ false j a (i + 1)) he hej (λ A' Q' E' hq'=>wpAny_nextOf_list_item st p.isList (by simpa using hu) hq') (λ h h' r k=>inner_at r k) λ h' x1 x2 x3 x4=>fin u ru h' x1 x2 x3 x4 λ ys hys=>by rw [I.list_inj hys hq]; exact hx
  done:=by
    intro X hP hw hK hc i pins s σ H E I hf st hg
    subst hP hw hK
    obtain ⟨⟨old,he⟩,st⟩:=st
    obtain ⟨xs,hq,hx⟩:=hg
    obtain ⟨f0,f1,f2,f3,f4,f5⟩:=hf j (by simp)
    have hh:=I.ok.hd hc
    cases q with
    | true =>
      obtain ⟨its,rv,p,hz⟩:=I.tuple hq
      have hl:=rv.length
      exact enum_stop he (λ A' Q' E' hA go=>nextT_stop (hA.trans hh) st (show s.heap.IsTuple a its.toArray from p) (by simp; omega) go) λ h' eb=>⟨rfl,I.turned (t':=s.toks) (λ b o hb g=>eb b o hb g) f0 f1 f3 f4 f5⟩
    | false =>
      obtain ⟨its,rv,p,hz⟩:=I.list hq
      have hl:=rv.length
      exact enum_stop he (λ A' Q' E' hA go=>wpAny_nextOf_list_end (hA.trans hh) st p.isList (by simp; omega) go) λ h' eb=>⟨rfl,I.turned (t':=s.toks) (λ b o hb g=>eb b o hb g) f0 f1 f3 f4 f5⟩
  self:=λ _ _ _ _ _ st h=>let ⟨⟨_,g⟩,_⟩:=st; wpAny_pyIter_enum g h
section
variable {X:Cx} {W:XP} {a:Expr} {f:Ga->R D} {p pos tpos:Pos} {elts:List Expr} {x1:Nat}
noncomputable def enumL (ds:List D):List D:=(List.range ds.length).map λ (k:Nat)=>D.tup [.int (k:Int),ds.getD k .non]
noncomputable def enumD (d:D):Option (List D):=match d with
  | .tup ds=>some (enumL ds)
  | .lst ds=>some (enumL ds)
  | _=>none
noncomputable def iEnum (K:PySem.W.Frag) (ta:TE):TI:=λ σ H R=>ta σ H λ x H1=>∃ q a,x=.ref a/\(∃ xs,SqQ K q H1 a xs)/\R (Ite K q a) H1
theorem enum_made {s:Shared} {t:Addr} {its:Array Value} {Q:Value->Shared->Prop} {prog:Program} {w:World} {A:Around} {E:Value->Shared->Prop} (ht:s.heap.IsTuple t its)
    (go:∀ h',IsEnum h' (s.heap.objs.size + 1) s.heap.objs.size 0 .none->h'.IsTupleIter s.heap.objs.size t 0->(∀ b o,s.heap.get? b=some o->h'.get? b=some o)->Q (.ref (s.heap.objs.size + 1)) { s with heap:=h' }) :
    wpAny (model prog w) A (call (.type "enumerate") [.ref t]) Q E s:=by
  obtain ⟨⟨c,dd,dt,sl⟩,gt,hc,n,hd⟩:=ht
  cases hc
  cases hd
  refine callType_new F.called_enumerate (by decide) (F.typeCall_enumerate_1 _) (F.newCall_enumerate_1 _) (λ obj=>F.args_object_init_2 obj _) F.entry_enumerate_new (meets_enumT t its n dd sl) ⟨gt,?_⟩
  have hz:(s.heap.push { cls:=.type "tuple_iterator",data:=.fields #[.ref t,.int 0 0] }).objs.size=s.heap.objs.size + 1:=Heap.size_push ..
  have he:=Heap.get?_push_size (s.heap.push { cls:=.type "tuple_iterator",data:=.fields #[.ref t,.int 0 0] }) (o:={ cls:=.type "enumerate",data:=.fields #[.none,.bool false,.ref s.heap.objs.size,rawInt 0,.none,.none] }) rfl
  rw [hz] at he
  show _/\_
  rw [hz]
  exact ⟨⟨_,he,rfl⟩,go _ he ⟨_,Heap.get?_push_of_some _ (Heap.get?_push_size _ rfl),rfl,rfl⟩ λ b o g=>Heap.get?_push_of_some _ (Heap.get?_push_of_some _ g)⟩
theorem pi_enum {ta:TE} (hg:Gl X "enumerate") (hm:X.mg "enumerate"=none) (ha:PE X a ta) (hs:starEach [a] X.env=[(false,eval a X.env)]:=by rfl):PI X (.Tuple elts x1 tpos) (.Call (.Name "enumerate" p) [a] [] pos) (iEnum X.K ta):=by
  intro pins s σ H R I h
  refine Call_ (ld_blt I hg hm boot_enumerate (PyProof.Rows.callWith_type1 (thn (pa_cons ha pa_nil hs pos pins s σ H (λ vs H1=>∃ v,vs=[v]/\∃ q a,v=.ref a/\(∃ xs,SqQ X.K q H1 a xs)/\R (Ite X.K q a) H1) I ?_) λ us s1 ⟨vs,H1,I1,r1,q1⟩=>?_) hs rfl))
  · have h':ta σ H λ x H1=>∃ q a,x=.ref a/\(∃ xs,SqQ X.K q H1 a xs)/\R (Ite X.K q a) H1:=h
    have mono:∀ (Q1 Q2:VK),(∀ v H,Q1 v H->Q2 v H)->Q1=Q1:=λ _ _ _=>rfl
    show ta σ H λ x H1=>∃ v,[x]=[v]/\∃ q a,v=.ref a/\(∃ xs,SqQ X.K q H1 a xs)/\R (Ite X.K q a) H1
    have e:(λ (x:V) (H1:Hp)=>∃ v,[x]=[v]/\∃ q a,v=.ref a/\(∃ xs,SqQ X.K q H1 a xs)/\R (Ite X.K q a) H1)=(λ x H1=>∃ q a,x=.ref a/\(∃ xs,SqQ X.K q H1 a xs)/\R (Ite X.K q a) H1):=by
      funext x H1
      refine propext ⟨?_,λ z=>⟨x,rfl,z⟩⟩
      rintro ⟨v,e,z⟩
      cases e
      exact z
    rw [e]
    exact h'
  · obtain ⟨v,rfl,q,l,rfl,⟨xs,hq⟩,hR⟩:=q1
    obtain ⟨u,rfl,ru⟩:=r1.one
    obtain rfl:u=Value.ref l:=ru
    have fin:∀ h',IsEnum h' (s1.heap.objs.size + 1) s1.heap.objs.size 0 .none->innerQ q s1.heap.objs.size l 0 h'->(∀ b o,s1.heap.get? b=some o->h'.get? b=some o) ->
        wpAny (model X.prog X.w) X.A (pyIter (.ref (s1.heap.objs.size + 1))) (PIE X pins σ (.Tuple elts x1 tpos) R) X.xe { s1 with heap:=h' }:=λ h' he hin kp=>by
      refine wpAny_pyIter_enum (s:={ s1 with heap:=h' }) he ?_
      refine ⟨s1.heap.objs.size + 1,[s1.heap.objs.size + 1,s1.heap.objs.size],_,_,H1,rfl,I1.kept (t':=s1.toks) kp,turn_enum q l _ _ (by simp),⟨⟨_,he⟩,hin⟩,λ b hb=>?_,hR⟩
      rcases List.mem_cons.mp hb with z | hb
      · subst z; exact I1.fpOk (Nat.le_succ _) (I1.hok.fresh (Nat.le_succ _))
      · have z:b=s1.heap.objs.size:=by simpa using hb
        subst z; exact I1.fpOk (Nat.le_refl _) (I1.hok.fresh (Nat.le_refl _))
    cases q with
    | true =>
      obtain ⟨its,rv,pt,hz⟩:=I1.tuple hq
      exact enum_made (show s1.heap.IsTuple l its.toArray from pt) λ h' he hin kp=>fin h' he hin kp
    | false =>
      obtain ⟨its,rv,pl,hz⟩:=I1.list hq
      exact call_enumerate_list pl.isList λ h' he hin _ kp=>fin h' he hin kp
noncomputable def iE (f:Ga->R D):Ga->R (List D):=λ Γ=>(f Γ).bind λ d=>.ofO (enumD d)
theorem it_enum (hg:Gl X "enumerate") (hm:X.mg "enumerate"=none) (he:EvD X W a f) (hs:starEach [a] X.env=[(false,eval a X.env)]:=by rfl):ItD X W (.Tuple elts x1 tpos) (.Call (.Name "enumerate" p) [a] [] pos) (iE f):=by
  obtain ⟨t,pe,q⟩:=he
  refine ⟨_,pi_enum hg hm pe hs,λ H₀ G₀ Γ σ H G R Q w=>?_⟩
  refine q _ _ _ _ _ _ R _ (wStep w (λ _ h=>h) λ d w v H' G' E1 d1=>?_)
  obtain ⟨ds,e2,k⟩:=wOfO w
  have main:∀ (b:Bool) (a:Addr) (xs:List D) (vs:List V),SqQ X.K b G' a vs->DenL X.K G' xs vs->ds=enumL xs->∃ q a',V.ref a=.ref a'/\(∃ xs,SqQ X.K q H' a' xs)/\Q (Ite X.K q a') H':=λ b a xs vs sq l hds=>by
    have up:∀ {H2:Hp},Same G' H2->SqQ X.K b H2 a vs:=λ {H2} g=>by
      cases b with
      | true=>exact Same.seqT g sq
      | false=>exact g.seq sq
    subst hds
    refine ⟨b,a,rfl,⟨vs,up E1.gh⟩,k _ H' G' E1 λ i H2 G2 g2 h2=>⟨λ d hd=>?_,λ hi=>⟨vs,up (g2.trans h2),?_⟩⟩⟩
    · unfold enumL at hd
      rw [List.getElem?_map] at hd
      obtain ⟨m,em,ed⟩:=Option.map_eq_some_iff.mp hd
      obtain ⟨hm',e3⟩:=List.getElem?_eq_some_iff.mp em
      rw [List.getElem_range] at e3
      rw [List.length_range] at hm'
      subst e3
      obtain ⟨v,hv,dv⟩:=l.get (List.getElem?_eq_getElem hm')
      refine ⟨⟨vs,v,up (g2.trans h2),hv⟩,λ x H3 ⟨p,v',hp,eH,ex,hy⟩=>?_⟩
      have hv':=hy vs (up (g2.trans h2))
      rw [hv] at hv'
      cases hv'
      subst eH ex ed
      have A:=Ext.alloc (o:=.tup [.int i,v]) h2 hp
      refine ⟨_,A,den_tup.mpr ⟨p,_,rfl,SqT.of upd_same,denL_cons.mpr ⟨_,_,rfl,den_int,.one ?_⟩⟩⟩
      rw [List.getD_eq_getElem?_getD,List.getElem?_eq_getElem hm']
      exact (dv.up g2).up A.gg
    · have hi':=hi
      unfold enumL at hi'
      rw [List.length_map,List.length_range] at hi'
      rw [<- l.length]
      exact hi'
  cases d with
  | tup xs =>
    cases e2
    obtain ⟨a,vs,rfl,s,l⟩:=den_tup.mp d1
    exact main true a xs vs s l rfl
  | lst xs =>
    cases e2
    obtain ⟨a,vs,rfl,s,l⟩:=den_lst.mp d1
    exact main false a xs vs s l rfl
  | _=>cases e2
end
end Wy


namespace Wy
open PySem PySem.Spec PyProof.Rows L2
noncomputable def lenS:Bool×List D->Option D:=λ p=>some (.int p.2.length)
noncomputable def allS:Bool×List D->Option D:=λ p=>match p with
  | (false,ds)=>(asBs ds).bind λ bs=>some (.bl (bs.all id))
  | _=>none
noncomputable def tupS:Bool×List D->Option D:=λ p=>some (.tup p.2)
noncomputable def RS.seq (r:RS) (U:Ga->RS):RS:=match r with
  | .nx Γ'=>U Γ'
  | r=>r
noncomputable def RS.fin (r:RS):R D:=match r with
  | .rt d=>.ok d
  | .nx _=>.ok .non
  | .ex c _=>.ex c
  | _=>.no
@[simp] theorem callR_eq (N:List Str) (s:Ga->RS) (ds:List D):callR N s ds=(s (begin_ N ds)).fin:=nr rfl
section
variable {α β:Type} {Γ Γ':Ga} {d x y:D} {xs:List D} {f fa fb fc:Ga->R D} {fl:Ga->R (List D)} {fs:Ga->R (Bool×List D)} {g ga gb:Ga->R Bool} {T U:Ga->RS} {F F':D->D->Option D} {n:Nat} {sl:Sl} {c:Str}
@[simp] theorem seq_nx:RS.seq (.nx Γ) U=U Γ:=nr rfl
@[simp] theorem seq_rt:RS.seq (.rt d) U=.rt d:=nr rfl
@[simp] theorem seq_ex:RS.seq (.ex c Γ) U=.ex c Γ:=nr rfl
@[simp] theorem fin_rt:RS.fin (.rt d)=.ok d:=nr rfl
@[simp] theorem fin_nx:RS.fin (.nx Γ)=.ok .non:=nr rfl
@[simp] theorem fin_ex:RS.fin (.ex c Γ)=.ex c:=nr rfl
@[simp] theorem fin_no:RS.fin .no=.no:=nr rfl
@[simp] theorem fin_ite {p:Prop} [Decidable p] {a b:RS}:RS.fin (if p then a else b)=if p then RS.fin a else RS.fin b:=by split <;> rfl
@[simp] theorem bind_ite {p:Prop} [Decidable p] {a b:R α} {k:α->R β}:R.bind (if p then a else b) k=if p then R.bind a k else R.bind b k:=by split <;> rfl
@[simp] theorem of_ite {p:Prop} [Decidable p] {a b:R α} {k:α->RS}:RS.of (if p then a else b) Γ k=if p then RS.of a Γ k else RS.of b Γ k:=by split <;> rfl
@[simp] theorem eC_eq:eC d Γ=.ok d:=nr rfl
@[simp] theorem eV_zero:eV 0 (.val d::Γ)=.ok d:=nr rfl
@[simp] theorem eV_succ:eV (n + 1) (sl::Γ)=eV n Γ:=by simp [eV]
@[simp] theorem sV_lst:sV 0 (.val (.lst xs)::Γ)=.ok (false,xs):=nr rfl
@[simp] theorem sV_own:sV 0 (.own xs::Γ)=.ok (false,xs):=nr rfl
@[simp] theorem sV_succ:sV (n + 1) (sl::Γ)=sV n Γ:=by simp [sV]
@[simp] theorem sE_eq:sE f Γ=(f Γ).bind λ d=>.ofO (seqOf d):=nr rfl
@[simp] theorem seqOf_tup:seqOf (.tup xs)=some (true,xs):=nr rfl
@[simp] theorem sO_eq:sO fl Γ=(fl Γ).bind λ ds=>.ok (false,ds):=nr rfl
@[simp] theorem eO_eq:eO fl Γ=(fl Γ).bind λ ds=>.ok (.lst ds):=nr rfl
@[simp] theorem aNil_eq:aNil Γ=.ok []:=nr rfl
@[simp] theorem aCons_eq:aCons f fl Γ=(f Γ).bind λ d=>(fl Γ).bind λ ds=>.ok (d::ds):=nr rfl
@[simp] theorem eTup_eq:eTup fl Γ=(fl Γ).bind λ ds=>.ok (.tup ds):=nr rfl
@[simp] theorem e2_eq:e2 F fa fb Γ=(fa Γ).bind λ x=>(fb Γ).bind λ y=>.ofO (F x y):=nr rfl
@[simp] theorem asB_bl {b:Bool}:asB (.bl b)=some b:=nr rfl
@[simp] theorem tB_eq:Wy.tB f Γ=(f Γ).bind λ d=>.ofO (asB d):=nr rfl
noncomputable def chainK (k:D) (r:R D):R D:=match k with
  | .bl true=>r
  | .bl false=>.ok (.bl false)
  | _=>.no
@[simp] theorem chainK_bl {b:Bool} {r:R D}:chainK (.bl b) r=if b=true then r else .ok (.bl false):=by cases b <;> rfl
@[simp] theorem e3_eq:e3 F F' fa fb fc Γ=(fa Γ).bind λ x=>(fb Γ).bind λ y=>(R.ofO (F x y)).bind λ z=>chainK z ((fc Γ).bind λ w=>.ofO (F' y w)):=nr rfl
noncomputable def orK (k:D) (r:R D):R D:=match k with
  | .bl true=>.ok (.bl true)
  | .bl false=>r
  | _=>.no
@[simp] theorem orK_bl {b:Bool} {r:R D}:orK (.bl b) r=if b=true then .ok (.bl true) else r:=by cases b <;> rfl
@[simp] theorem eAnd_eq:eAnd fa fb Γ=(fa Γ).bind λ x=>chainK x (fb Γ):=nr rfl
@[simp] theorem eOr_eq:eOr fa fb Γ=(fa Γ).bind λ x=>orK x (fb Γ):=nr rfl
noncomputable def notK (k:D):R D:=match k with
  | .bl k=>.ok (.bl (!k))
  | _=>.no
@[simp] theorem notK_bl {b:Bool}:notK (.bl b)=.ok (.bl (!b)):=nr rfl
@[simp] theorem eNot_eq:eNot fa Γ=(fa Γ).bind notK:=nr rfl
@[simp] theorem tAndR_eq:tAndR ga gb Γ=(ga Γ).bind λ k=>if k=true then gb Γ else .ok false:=by
  show (ga Γ).bind _=_
  congr 1; funext k; cases k <;> rfl
@[simp] theorem tOrR_eq:tOrR ga gb Γ=(ga Γ).bind λ k=>if k=true then .ok true else gb Γ:=by
  show (ga Γ).bind _=_
  congr 1; funext k; cases k <;> rfl
@[simp] theorem tNotR_eq:tNotR ga Γ=(ga Γ).bind λ k=>.ok (!k):=nr rfl
@[simp] theorem tTru_eq:tTru f Γ=(f Γ).bind λ d=>.ofO (truD d):=nr rfl
@[simp] theorem truD_bl {b:Bool}:truD (.bl b)=some b:=nr rfl
@[simp] theorem eCall_eq {M:List D->R D}:eCall M fl Γ=(fl Γ).bind M:=nr rfl
@[simp] theorem eB_eq {M:List D->Option D}:eB M fl Γ=(fl Γ).bind λ ds=>.ofO (M ds):=nr rfl
@[simp] theorem eS_eq {M:Bool×List D->Option D}:eS M fs Γ=(fs Γ).bind λ p=>.ofO (M p):=nr rfl
@[simp] theorem lenD_tup:lenD [.tup xs]=some (.int xs.length):=nr rfl
@[simp] theorem lenD_lst:lenD [.lst xs]=some (.int xs.length):=nr rfl
@[simp] theorem lenS_eq {b:Bool}:lenS (b,xs)=some (.int xs.length):=nr rfl
@[simp] theorem tupS_eq {b:Bool}:tupS (b,xs)=some (.tup xs):=nr rfl
@[simp] theorem oList_eq:oList fs Γ=(fs Γ).bind λ p=>.ok p.2:=nr rfl
@[simp] theorem ixD_tup {i:Int}:ixD (.tup xs) (.int i)=atI xs i:=nr rfl
@[simp] theorem ixD_lst {i:Int}:ixD (.lst xs) (.int i)=atI xs i:=nr rfl
@[simp] theorem ixS_int {b:Bool} {i:Int}:ixS (b,xs) (.int i)=atI xs i:=nr rfl
@[simp] theorem eIxS_eq:eIxS fs fb Γ=(fs Γ).bind λ p=>(fb Γ).bind λ y=>.ofO (ixS p y):=nr rfl
@[simp] theorem oN_eq:oN Γ=.ok none:=nr rfl
@[simp] theorem asI_int {i:Int}:asI (.int i)=some i:=nr rfl
@[simp] theorem oI_eq:oI f Γ=(f Γ).bind λ d=>(R.ofO (asI d)).bind λ i=>.ok (some i):=nr rfl
@[simp] theorem cutS_eq {l h:Option Int}:cutS (false,xs) l h=some (cut xs l h):=nr rfl
@[simp] theorem oSl_eq {gl gh:Ga->R (Option Int)}:oSl fs gl gh Γ=(fs Γ).bind λ d=>(gl Γ).bind λ l=>(gh Γ).bind λ h=>.ofO (cutS d l h):=nr rfl
@[simp] theorem sPop_eq {m:Nat}:sPop n m Γ=match Γ[n]? with | some (.own xs)=>(match xs.getLast? with | some d=>.nx ((Γ.set n (.own xs.dropLast)).set m (.val d)) | none=>.no) | _=>.no:=nr rfl
@[simp] theorem fin_of {x:R D}:(RS.of x Γ λ d=>.rt d).fin=x:=by cases x <;> rfl
@[simp] theorem eIsi_eq {k:String->Bool}:eIsi k fa Γ=(fa Γ).bind λ d=>.ok (.bl (k (tyN d))):=nr rfl
@[simp] theorem int2_int {k:Int->Int->Option D} {i j:Int}:int2 k (.int i) (.int j)=k i j:=nr rfl
@[simp] theorem ltD_int {i j:Int}:ltD (.int i) (.int j)=some (.bl (decide (i < j))):=nr rfl
@[simp] theorem mulI_r {i j:Int} (h:-(2 ^ 64) < j/\j < 2 ^ 64):mulI i j=some (.int (i * j)):=if_pos (.inr h)
@[simp] theorem mulI_l {i j:Int} (h:-(2 ^ 64) < i/\i < 2 ^ 64):mulI i j=some (.int (i * j)):=if_pos (.inl h)
@[simp] theorem modI_pos {i j:Int} (h:0 < j):modI i j=some (.int (i % j)):=if_pos h
@[simp] theorem sNext_eq:sNext Γ=.nx Γ:=nr rfl
@[simp] theorem sSeq_eq:sSeq T U Γ=RS.seq (T Γ) U:=nr rfl
@[simp] theorem sRet_eq:sRet f Γ=.of (f Γ) Γ λ d=>.rt d:=nr rfl
@[simp] theorem sRetO_eq:sRetO n Γ=match Γ[n]? with | some (.own xs)=>.rt (.lst xs) | _=>.no:=nr rfl
@[simp] theorem sSet_eq:sSet n f Γ=.of (f Γ) Γ λ d=>.nx (Γ.set n (.val d)):=nr rfl
@[simp] theorem sSetO_eq:sSetO n fl Γ=.of (fl Γ) Γ λ d=>.nx (Γ.set n (.own d)):=nr rfl
@[simp] theorem sDrop_eq:sDrop f Γ=.of (f Γ) Γ λ _=>.nx Γ:=nr rfl
@[simp] theorem sIf_eq:sIf g T U Γ=.of (g Γ) Γ λ k=>if k=true then T Γ else U Γ:=by
  show RS.of (g Γ) Γ _=_
  congr 1; funext k; cases k <;> rfl
@[simp] theorem sApp_eq:sApp n f Γ=match Γ[n]? with | some (.own xs)=>.of (f Γ) Γ λ d=>if xs.length < 16000000 then .nx (Γ.set n (.own (xs++[d]))) else .no | _=>.no:=nr rfl
@[simp] theorem gName_eq:gName' n d Γ=some (Γ.set n (.val d)):=nr rfl
@[simp] theorem iL_eq:iL f Γ=(f Γ).bind λ d=>.ofO (asL d):=nr rfl
@[simp] theorem iT_eq:iT f Γ=(f Γ).bind λ d=>.ofO (asT d):=nr rfl
@[simp] theorem asL_lst:asL (.lst xs)=some xs:=nr rfl
@[simp] theorem asT_tup:asT (.tup xs)=some xs:=nr rfl
@[simp] theorem iR1_eq:iR1 fl Γ=(fl Γ).bind λ d=>.ofO (rng1 d):=nr rfl
@[simp] theorem iE_eq:iE f Γ=(f Γ).bind λ d=>.ofO (enumD d):=nr rfl
@[simp] theorem enumD_lst:enumD (.lst xs)=some (enumL xs):=nr rfl
@[simp] theorem sFor_eq {gg:D->Ga->Option Ga}:sFor fl gg T Γ=.of (fl Γ) Γ λ ds=>sTurns gg T ds Γ:=nr rfl
@[simp] theorem cpR_eq:cpR fl g f Γ=(fl Γ).bind λ ds=>if ds.length < 16000000 then compR g f Γ ds else .no:=nr rfl
theorem rng1_nat {k:Nat} (h:(k:Int) < 2 ^ 62):rng1 [.int (k:Int)]=some ((List.range k).map λ (j:Nat)=>D.int (j:Int)):=by
  simp only [rng1]
  rw [if_pos ⟨by omega,h⟩,Int.toNat_natCast]
  congr 2
  funext j
  rw [Int.zero_add]
theorem allS_eq {bs:List Bool}:allS (false,bs.map D.bl)=some (.bl (bs.all id)):=by
  show (asBs (bs.map D.bl)).bind _=_
  have:=asBs_map id bs
  rw [show (bs.map D.bl)=(bs.map λ x=>D.bl (id x)) from rfl,this]
  simp
theorem atI_zero {α:Type} (x:α) (xs:List α):atI (x::xs) 0=some x:=atI_nat (j:=0) rfl
theorem atI_one {α:Type} (x y:α) (xs:List α):atI (x::y::xs) 1=some y:=atI_nat (j:=1) rfl
theorem atI_two {α:Type} (x y z:α) (xs:List α):atI (x::y::z::xs) 2=some z:=atI_nat (j:=2) rfl
end
end Wy


namespace Wy
open PySem PySem.Spec PyProof.Rows L2
theorem turns_st {α:Type} {g:D->Ga->Option Ga} {T:Ga->RS} (P:α->Ga->Prop) (F:α->D->α):∀ (ds:List D) (a:α) (Γ:Ga),(∀ a d Γ,d∈ds->P a Γ->∃ Γ1 Γ',g d Γ=some Γ1/\(T Γ1=.nx Γ'∨T Γ1=.ct Γ')/\P (F a d) Γ')->P a Γ->∃ Γ',sTurns g T ds Γ=.nx Γ'/\P (ds.foldl F a) Γ'
  | [],a,Γ,_,h=>⟨Γ,rfl,h⟩
  | d::ds,a,Γ,H,h=>by
    obtain ⟨Γ1,Γ2,h1,h2,h3⟩:=H a d Γ List.mem_cons_self h
    obtain ⟨Γ',e,q⟩:=turns_st P F ds (F a d) Γ2 (λ a x Γ hx=>H a x Γ (List.mem_cons_of_mem _ hx)) h3
    refine ⟨Γ',?_,q⟩
    unfold sTurns
    rw [h1]
    rcases h2 with h2 | h2 <;> (dsimp only; rw [h2]; exact e)
theorem all_cp {it:Ga->R (List D)} {f:Ga->R D} {Γ:Ga} {ds:List D} {p:D->Bool} (h1:it Γ=.ok ds) (h2:ds.length < 16000000) (h3:∀ d∈ds,f (.val d::.un::Γ)=.ok (.bl (p d))) :
    eS allS (sO (cpR it cTrue f)) Γ=.ok (.bl (ds.all p)):=by
  have e:=compR_map (f:=f) (Γ:=Γ) (h:=λ d=>D.bl (p d)) h3
  have e2:allS (false,ds.map λ d=>D.bl (p d))=some (.bl (ds.all p)):=by
    have:=allS_eq (bs:=ds.map p)
    rw [List.map_map] at this
    rw [show (D.bl ∘ p)=λ d=>D.bl (p d) from rfl] at this
    rw [this]
    simp [Function.comp_def]
  simp [h1,h2,e,e2]
theorem turns_ix {α:Type} {g:D->Ga->Option Ga} {T:Ga->RS} (P:Nat->α->Ga->Prop) (F:α->D->α):∀ (ds:List D) (j:Nat) (a:α) (Γ:Ga),(∀ i a d Γ,ds[i]?=some d->P (j + i) a Γ->∃ Γ1 Γ',g d Γ=some Γ1/\(T Γ1=.nx Γ'∨T Γ1=.ct Γ')/\P (j + i + 1) (F a d) Γ')->P j a Γ->∃ Γ',sTurns g T ds Γ=.nx Γ'/\P (j + ds.length) (ds.foldl F a) Γ'
  | [],j,a,Γ,_,h=>⟨Γ,rfl,h⟩
  | d::ds,j,a,Γ,H,h=>by
    obtain ⟨Γ1,Γ2,h1,h2,h3⟩:=H 0 a d Γ rfl h
    obtain ⟨Γ',e,q⟩:=turns_ix P F ds (j + 1) (F a d) Γ2 (λ i a x Γ hx h=>by
      have:=H (i + 1) a x Γ (by simpa using hx) (by rw [show j + (i + 1)=j + 1 + i by omega]; exact h)
      rw [show j + (i + 1)=j + 1 + i by omega] at this
      exact this) h3
    refine ⟨Γ',?_,by rw [List.length_cons,show j + (ds.length + 1)=j + 1 + ds.length by omega]; exact q⟩
    unfold sTurns
    rw [h1]
    rcases h2 with h2 | h2 <;> (dsimp only; rw [h2]; exact e)
theorem foldl_app {α β:Type} (h:α->β):∀ (ds:List α) (a:List β),ds.foldl (λ acc d=>acc++[h d]) a=a++ds.map h
  | [],a=>by simp
  | d::ds,a=>by rw [List.foldl_cons,foldl_app h ds]; simp
end Wy
namespace Wl
open PySem PySem.Spec PyProof.Rows L2 Wy
noncomputable abbrev Wd:=List Str×List (List Nat)
noncomputable def dNames (ns:List Str):D:=.tup (ns.map .str)
noncomputable def dRow (r:List Nat):D:=.tup (r.map λ (n:Nat)=>D.int (n:Int))
noncomputable def dWays (w:List (List Nat)):D:=.tup (w.map dRow)
noncomputable def dWd (w:Wd):D:=.tup [dNames w.1,dWays w.2]
noncomputable def dYd (y:List Wd):D:=.tup (y.map dWd)
noncomputable def dLs (ns:List Int):D:=.lst (ns.map D.int)
noncomputable def cellI (ns:List Int) (k:Nat):Int:=ns.getD k 0
noncomputable def mixI (c p m:Int):Int:=c * 48271 % p % m
theorem mix_lt (c p m:Int) (h:0 < m):0<=mixI c p m/\mixI c p m < m:=⟨Int.emod_nonneg _ (by omega),Int.emod_lt_of_pos _ h⟩
noncomputable def yCount (ns:List Int) (k:Nat):Nat:=(1 + cellI ns k % 5).toNat
noncomputable def yNames (ns:List Int) (k w:Nat):List Str:=(([(0,"a"),(1,"b"),(2,"zz")]:List (Nat×Str)).filter λ p=>decide (mixI (cellI ns (k + 1) + 7 * (w:Int) + (p.1:Int)) 9929 2=0)).map (·.2)
noncomputable def yRow (ns:List Int) (k:Nat) (own:Int) (w kind:Nat):List Nat:=(List.range (yCount ns k)).filter λ one=>decide (mixI (cellI ns (k + 2 + kind) + 31 * (w:Int) + 5 * (one:Int)) 9923 3=0)||(decide (own=1)&&decide (one=w))
noncomputable def lawWd (ns:List Int) (k:Nat) (own:Int) (w:Nat):Wd:=(yNames ns k w,(List.range 3).map (yRow ns k own w))
noncomputable def lawYd (ns:List Int) (k:Nat) (own:Int):List Wd:=(List.range (yCount ns k)).map (lawWd ns k own)
theorem yCount_le (ns:List Int) (k:Nat):1<=yCount ns k/\yCount ns k<=5:=by
  have h1:=Int.emod_nonneg (cellI ns k) (show (5:Int)≠0 by decide)
  have h2:=Int.emod_lt_of_pos (cellI ns k) (show (0:Int) < 5 by decide)
  unfold yCount
  omega
section
variable {r:List Nat} {nms:List Str} {ws:List (List Nat)} {w:Wd} {y:List Wd}
@[simp] theorem ty_row:tyN (dRow r)="tuple":=nr rfl
@[simp] theorem ty_names:tyN (dNames nms)="tuple":=nr rfl
@[simp] theorem ty_ways:tyN (dWays ws)="tuple":=nr rfl
@[simp] theorem ty_wd:tyN (dWd w)="tuple":=nr rfl
@[simp] theorem ty_yd:tyN (dYd y)="tuple":=nr rfl
@[simp] theorem len_yd:lenD [dYd y]=some (.int y.length):=by simp [dYd]
@[simp] theorem as_row:asT (dRow r)=some (r.map λ (n:Nat)=>D.int (n:Int)):=nr rfl
@[simp] theorem wd_0:ixD (dWd w) (.int 0)=some (dNames w.1):=by rw [show dWd w=.tup [dNames w.1,dWays w.2] from rfl,ixD_tup,atI_zero]
@[simp] theorem wd_1:ixD (dWd w) (.int 1)=some (dWays w.2):=by rw [show dWd w=.tup [dNames w.1,dWays w.2] from rfl,ixD_tup,atI_one]
theorem yd_at {k:Nat} (h:y[k]?=some w):ixD (dYd y) (.int (k:Int))=some (dWd w):=by
  rw [show dYd y=.tup (y.map dWd) from rfl,ixD_tup]
  exact atI_nat (by simp [h])
@[simp] theorem gT_t:gTuple "tuple"=true:=nr rfl
end
@[simp] theorem ty_int {x:Int}:tyN (.int x)="int":=nr rfl
end Wl


namespace Wy
open PySem PySem.Spec PyProof.Rows L2
structure Chg (F ch:List Addr) (h h':Heap):Prop where
  keep:∀ b o,h.get? b=some o->b∉F->b∉ch->h'.get? b=some o
  slot:∀ b o,h.get? b=some o->b∈F->b∉ch->∃ sl,h'.get? b=some { o with slots:=sl }
  there:∀ b o,h.get? b=some o->b∉ch->∃ o',h'.get? b=some o'
theorem Chg.trans {F ch:List Addr} {h h1 h2:Heap} (a:Chg F ch h h1) (b:Chg F ch h1 h2):Chg F ch h h2 where
  keep:=λ c o e h1 h2=>b.keep c o (a.keep c o e h1 h2) h1 h2
  slot:=λ c o e h1 h2=>by
    obtain ⟨sl,e1⟩:=a.slot c o e h1 h2
    obtain ⟨sl',e2⟩:=b.slot c _ e1 h1 h2
    exact ⟨sl',e2⟩
  there:=λ c o e h2=>by
    obtain ⟨o',e1⟩:=a.there c o e h2
    exact b.there c o' e1 h2
theorem Chg.of_slots {F ch:List Addr} {h h':Heap} (x:Heap.SlotsOnly F h h'):Chg F ch h h' :=
  ⟨λ b o e hb _=>(x.2.1 b hb).trans e,λ b o e _ _=>x.2.2 b o e,λ b o e _=>let ⟨_,q⟩:=x.2.2 b o e; ⟨_,q⟩⟩
theorem Chg.push {F ch:List Addr} {h:Heap} (o:Obj):Chg F ch h (h.push o) :=
  ⟨λ b _ e _ _=>Heap.get?_push_of_some _ e,λ b o' e _ _=>⟨o'.slots,Heap.get?_push_of_some _ e⟩,λ b o' e _=>⟨o',Heap.get?_push_of_some _ e⟩⟩
theorem Chg.update {F ch:List Addr} {h:Heap} {a:Addr} {f:Obj->Obj} (ha:a∈ch):Chg F ch h (h.update a f):=by
  have ne:∀ b,b∉ch->a≠b:=λ b hb z=>hb (z ▸ ha)
  exact ⟨λ b o e _ hc=>(Heap.get?_update_other _ _ (ne b hc)).trans e,λ b o e _ hc=>⟨o.slots,(Heap.get?_update_other _ _ (ne b hc)).trans e⟩,λ b o e hc=>⟨o,(Heap.get?_update_other _ _ (ne b hc)).trans e⟩⟩
structure DefCx (X:Cx):Prop where
  stk:X.stack=X.env::X.outer
  frm:X.env.frame=some X.env.locals
  ex:X.ex=[]
structure Fp (X:Cx) (pins:List (Addr×Obj)) (H:Hp) (b:Addr):Prop where
  fr:H b=none
  loc:b≠X.env.locals
  fs:b∉X.fs
  new:X.s₀.heap.get? b=none
  cel:∀ x c,X.env.cells.lookup x=some c->c≠b
  pin:∀ p∈X.pn++pins,p.1≠b
section
variable {X:Cx} {pins:List (Addr×Obj)} {σ:L2.St} {H H':Hp} {s:Shared}
theorem inv_fp {b:Addr} (Dc:DefCx X) (I:Inv X pins σ H s) (hb:s.heap.get? b=none) (hn:H' b=none):Fp X pins H' b:=by
  refine ⟨hn,λ z=>?_,λ z=>?_,?_,λ x c e z=>?_,λ p hp z=>?_⟩
  · obtain ⟨m,⟨o,_,_,ho,_⟩,_⟩:=I.loc
    rw [<- z,hb] at ho; cases ho
  · obtain ⟨_,o,ho,_⟩:=I.funs.mem z
    rw [hb] at ho; cases ho
  · cases q:X.s₀.heap.get? b with
    | none=>rfl
    | some o =>
      obtain ⟨o',e⟩:=I.base.there b o q (by rw [Dc.ex]; simp)
      rw [hb] at e; cases e
  · obtain ⟨v,o,ho,_⟩:=I.cell x c e
    rw [z,hb] at ho; cases ho
  · have:=(I.pin p hp).1
    rw [z,hb] at this; cases this
theorem chg_inv {ch:List Addr} {h':Heap} {t':Nat} (I:Inv X pins σ H s) (c:Chg (frs X.stack) ch s.heap h') (hch:∀ b∈ch,Fp X pins H b):Inv X pins σ H { s with heap:=h',toks:=t' }:=by
  have nt:∀ b o,H b=some o->b∉frs X.stack/\b∉ch:=λ b o e=>⟨λ z=>(by rw [I.stkFree b z] at e; cases e),λ z=>(by rw [(hch b z).fr] at e; cases e)⟩
  have nold:∀ b o,X.s₀.heap.get? b=some o->b∉ch:=λ b o e z=>by rw [(hch b z).new] at e; cases e
  have nfr:∀ b,b≠X.env.locals->b∉X.fs->b∉frs X.stack:=λ b h1 h2 z=>(List.mem_cons.mp (I.stkSub b z)).elim h1 h2
  have noL:∀ b o,X.s₀.heap.get? b=some o->b≠X.env.locals:=λ b o e=>Nat.ne_of_lt (Nat.lt_of_lt_of_le (Heap.lt_size e) I.ok.above)
  have any:∀ b o,s.heap.get? b=some o->b∉ch->∃ sl,h'.get? b=some { o with slots:=sl }:=λ b o e hc=>by
    by_cases z:b∈frs X.stack
    · exact c.slot b o e z hc
    · exact ⟨o.slots,c.keep b o e z hc⟩
  have cellK:∀ x k,X.env.cells.lookup x=some k->∀ v,s.heap.IsCell k v->h'.IsCell k v:=λ x k e v ⟨o,ho,hd⟩=>by
    obtain ⟨sl,q⟩:=any k o ho λ z=>(hch k z).cel x k e rfl
    exact ⟨_,q,hd⟩
  refine ⟨I.ok,I.os,I.bare,⟨λ b o e n hb hx=>?_,λ b o e n hb hx=>?_,I.base.free,λ b o e hx=>?_,I.base.tups,I.base.frzs,I.base.tbls⟩,?_,λ x k e=>?_,I.free,I.freeC,λ p hp=>?_,λ b u e=>?_,I.len⟩
  · exact c.keep b o (I.base.keep b o e n hb hx) (nfr b (noL b o e) hb) (nold b o e)
  · obtain ⟨sl,e1⟩:=I.base.slot b o e n hb hx
    obtain ⟨sl',e2⟩:=any b _ e1 (nold b o e)
    exact ⟨sl',e2⟩
  · obtain ⟨o',e1⟩:=I.base.there b o e hx
    exact c.there b o' e1 (nold b o e)
  · obtain ⟨m,⟨o,es,ep,ho,r⟩,hl⟩:=I.loc
    obtain ⟨sl,q⟩:=any _ o ho λ z=>(hch _ z).loc rfl
    refine ⟨m,⟨_,es,ep,q,r⟩,λ i x v e1 e2 e3=>?_⟩
    obtain ⟨u,rv,l⟩:=hl i x v e1 e2 e3
    refine ⟨u,rv,?_⟩
    rcases l with l | ⟨k,d,e,z⟩
    · exact .inl l
    · exact .inr ⟨k,d,e,cellK x d e _ z⟩
  · obtain ⟨v,z⟩:=I.cell x k e
    exact ⟨v,cellK x k e v z⟩
  · obtain ⟨e,n,ne,nf,d⟩:=I.pin p hp
    exact ⟨c.keep p.1 p.2 e (nfr p.1 ne nf) λ z=>(hch p.1 z).pin p hp rfl,n,ne,nf,d⟩
  · refine (I.hok b u e).stay (λ d v hc q=>?_) (λ _ q=>q) λ _ _ q=>q
    rcases hc with z | z
    · subst z; exact c.keep d v q (nt d u e).1 (nt d u e).2
    · exact c.keep d v q (nt d _ z).1 (nt d _ z).2
theorem inv_unpin (I:Inv X pins σ H s):Inv X [] σ H s:=⟨I.ok,I.os,I.bare,I.base,I.loc,I.cell,I.free,I.freeC,λ p hp=>I.pin p (by rw [List.append_nil] at hp; exact List.mem_append_left _ hp),I.hok,I.len⟩
theorem fp_unpin {b:Addr} (f:Fp X pins H b):Fp X [] H b:=⟨f.fr,f.loc,f.fs,f.new,f.cel,λ p hp=>f.pin p (by rw [List.append_nil] at hp; exact List.mem_append_left _ hp)⟩
end
structure XAt (ok:Addr->Prop) (L:Option Addr) (h:Heap) (e:Addr) (cls:Value):Prop where
  me:ok e
  obj:∃ oe vs,h.get? e=some oe/\oe.cls=cls/\oe.data=.fields vs/\(vs[1]?=some .none∨∃ T oT ts,vs[1]?=some (.ref T)/\ok T/\T≠e/\h.get? T=some oT/\oT.data=.fields ts/\(ts[3]?=some .none∨∃ l,L=some l/\ts[3]?=some (rawInt l)))
structure XOn (ok:Addr->Prop) (n:Value) (h:Heap) (e:Addr) (cls:Value):Prop where
  me:ok e
  obj:∃ oe vs T oT ts,h.get? e=some oe/\oe.cls=cls/\oe.data=.fields vs/\vs[1]?=some (.ref T)/\ok T/\T≠e/\h.get? T=some oT/\oT.data=.fields ts/\ts[3]?=some n
theorem XOn.at {ok ok':Addr->Prop} {L:Option Addr} {h:Heap} {e:Addr} {cls:Value} {n:Value} (x:XOn ok n h e cls) (hok:∀ b,ok b->ok' b) (hn:n=.none∨∃ l,L=some l/\n=rawInt l):XAt ok' L h e cls:=by
  obtain ⟨oe,vs,T,oT,ts,h1,h2,h3,h4,h5,h6,h7,h8,h9⟩:=x.obj
  refine ⟨hok _ x.me,oe,vs,h1,h2,h3,.inr ⟨T,oT,ts,h4,hok _ h5,h6,h7,h8,?_⟩⟩
  rcases hn with rfl | ⟨l,e1,rfl⟩
  · exact .inl h9
  · exact .inr ⟨l,e1,h9⟩
section
variable {X:Cx} {pins:List (Addr×Obj)} {σ:L2.St} {H:Hp} {s:Shared} {E:Value->Shared->Prop} {M:Model} {e:Addr} {cls:Value}
theorem note_new {oe:Obj} {vs:Array Value} {head:Value} {b:Bool} {h0:Heap} {Q:Unit->Shared->Prop} (Dc:DefCx X) (I:Inv X pins σ H s) (fe:Fp X pins H e) (he:s.heap.get? e=some oe) (hc:oe.cls=cls) (hd:oe.data=.fields vs) (hz:1 < vs.size)
    (go:∀ s',Inv X pins σ H s'->XOn (Fp X pins H) (rawInt X.env.locals) s'.heap e cls->Q () s') :
    wpAny M X.A (do let a <- frameOf X.env; let pl <- entryPlaceOf X.env.locals b; let r <- EntryCells.newEntry head a .none (rawInt X.env.locals) .none pl; setField (.ref e) 1 r) Q E s:=by
  have hst:=I.stack
  have hfr:=I.ok.frames
  rw [Dc.stk] at hst hfr
  have ne:e∉(X.env::X.outer).filterMap (·.frame):=λ z=>by
    have z':e∈frs X.stack:=by rw [Dc.stk]; exact z
    rcases List.mem_cons.mp (I.stkSub e z') with q | q
    · exact fe.loc q
    · exact fe.fs q
  refine wpAny_bind (wpAny_frameOf_fun hfr hst Dc.frm λ g1 k1=>?_)
  refine wpAny_bind (wpAny_entryPlaceOf λ pl hpl=>?_)
  unfold EntryCells.newEntry newFields
  refine wpAny_bind (wpAny_newObj_type ?_ (hpl.sizeOk5 _ _ _ _ _))
  generalize hT:({ cls:=.type "traceback",dict:=none,data:=.fields ([head,.ref X.env.locals,.none,rawInt X.env.locals,.none]++(if pl.isEmpty then List.replicate 6 Value.none else pl)).toArray }:Obj)=oT
  have e1:g1.get? e=some oe:=(k1.2.1 e ne).trans he
  have e2:(g1.push oT).get? e=some oe:=Heap.get?_push_of_some _ e1
  refine wpAny_setField e2 hd hz ?_
  have nT:g1.objs.size≠e:=Nat.ne_of_gt (Heap.lt_size e1)
  have d3:=Obj.data_mapFields hd (·.setIfInBounds 1 (Value.ref g1.objs.size))
  have e3:=Heap.get?_update_self (Obj.mapFields (·.setIfInBounds 1 (Value.ref g1.objs.size))) e2 (Obj.isFreed_of_fields d3)
  have hnf:oT.isFreed=false:=by rw [<- hT]; rfl
  have t3:=(Heap.get?_update_other (g1.push oT) (Obj.mapFields (·.setIfInBounds 1 (Value.ref g1.objs.size))) (Ne.symm nT)).trans (Heap.get?_push_size g1 hnf)
  have C1:Chg (frs X.stack) [e] s.heap ((g1.push oT).update e (Obj.mapFields (·.setIfInBounds 1 (Value.ref g1.objs.size)))):=by
    rw [Dc.stk]
    exact ((Chg.of_slots k1).trans (Chg.push oT)).trans (Chg.update (List.mem_singleton.mpr rfl))
  have I1:=chg_inv (t':=s.toks) I C1 λ b hb=>by rw [List.mem_singleton.mp hb]; exact fe
  have hsz:s.heap.objs.size<=g1.objs.size:=by rw [k1.1]; exact Nat.le_refl _
  have fT:Fp X pins H g1.objs.size:=inv_fp Dc I (Heap.get?_none_of_le hsz) (I.hok.fresh hsz)
  refine go _ I1 ⟨fe,_,_,g1.objs.size,oT,_,e3,(Obj.cls_mapFields _ _).trans hc,d3,by simp [hz],fT,nT,t3,by rw [<- hT],?_⟩
  rcases hpl with rfl | ⟨_,_,_,_,_,_,_,rfl⟩ <;> rfl
theorem note_ok {Q:Unit->Shared->Prop} (Dc:DefCx X) (I:Inv X pins σ H s) (x:XAt (Fp X pins H) (some X.env.locals) s.heap e cls) (go:∀ s',Inv X pins σ H s'->XOn (Fp X pins H) (rawInt X.env.locals) s'.heap e cls->Q () s') :
    wpAny M X.A (noteFrame (.ref e) X.env) Q E s:=by
  obtain ⟨oe,vs,he,hc,hd,ht⟩:=x.obj
  unfold noteFrame
  simp only [Dc.frm]
  rcases ht with h1 | ⟨T,oT,ts,h1,fT,nT,gT,dT,h3⟩
  · refine wpAny_bind (wpAny_field he hd h1 ?_)
    rw [if_neg (by decide)]
    exact note_new (h0:=s.heap) Dc I x.me he hc hd (Array.getElem?_eq_some_iff.mp h1).1 go
  · refine wpAny_bind (wpAny_field he hd h1 ?_)
    rw [if_pos (show (Value.ref T != Value.none)=true by simp)]
    rcases h3 with h3 | ⟨l,hl,h3⟩
    · refine wpAny_bind (wpAny_field gT dT h3 ?_)
      rw [if_neg (show ¬ ((Value.none == rawInt X.env.locals)=true) by simp [rawInt])]
      refine wpAny_bind (wpAny_setField gT dT (Array.getElem?_eq_some_iff.mp h3).1 ?_)
      have I1:=chg_inv (t':=s.toks) I (Chg.update (ch:=[T]) (F:=frs X.stack) (h:=s.heap) (f:=Obj.mapFields (·.setIfInBounds 3 Value.none)) (List.mem_singleton.mpr rfl)) λ b hb=>by rw [List.mem_singleton.mp hb]; exact fT
      exact note_new (h0:=s.heap) Dc I1 x.me ((Heap.get?_update_other _ _ nT).trans he) hc hd (Array.getElem?_eq_some_iff.mp h1).1 go
    · cases hl
      refine wpAny_bind (wpAny_field gT dT h3 ?_)
      rw [if_pos (beq_self_eq_true _)]
      exact wpAny_pure (go _ I ⟨x.me,oe,vs,T,oT,ts,he,hc,hd,h1,fT,nT,gT,dT,h3⟩)
theorem flight_ok {n m:Value} {o:Option Addr} {Q:Unit->Shared->Prop} (I:Inv X pins σ H s) (x:XOn (Fp X pins H) n s.heap e cls) (hm:(o.elim Value.none λ f=>rawInt f)=m) (go:∀ s',Inv X pins σ H s'->XOn (Fp X pins H) m s'.heap e cls->Q () s') :
    wpAny M X.A (setFlight (.ref e) o) Q E s:=by
  obtain ⟨oe,vs,T,oT,ts,he,hc,hd,h1,fT,nT,gT,dT,h3⟩:=x.obj
  unfold setFlight
  refine wpAny_bind (wpAny_field he hd h1 ?_)
  rw [if_pos (show (Value.ref T != Value.none)=true by simp)]
  have hz:=(Array.getElem?_eq_some_iff.mp h3).1
  refine wpAny_setField gT dT hz ?_
  rw [hm]
  have d3:=Obj.data_mapFields dT (·.setIfInBounds 3 m)
  refine go _ (chg_inv (t':=s.toks) I (Chg.update (ch:=[T]) (F:=frs X.stack) (h:=s.heap) (List.mem_singleton.mpr rfl)) λ b hb=>by rw [List.mem_singleton.mp hb]; exact fT) ⟨x.me,oe,vs,T,_,_,(Heap.get?_update_other _ _ nT).trans he,hc,hd,h1,fT,nT,Heap.get?_update_self _ gT (Obj.isFreed_of_fields d3),d3,by simp [hz]⟩
end
noncomputable def XeOk (X:Cx) (W:XP):Value->Shared->Prop:=λ e s=>∃ (ea:Addr) (σ:L2.St) (H G:Hp) (c:Str) (C:Addr),e=.ref ea/\Inv X [] σ H s/\PySem.W.nsIn X.K mainGlobals c=some (some (.ref C))/\W c σ H G/\XAt (Fp X [] H) (some X.env.locals) s.heap ea (.ref C)
noncomputable abbrev _root_.L2.Cx.xw (X:Cx) (W:XP):Cx:=X.wish (XeOk X W)
noncomputable def CX1 (P:Program) (w:World):CXT:=λ outer H s E e s'=>∃ (ea C:Addr) (H':Hp),e=.ref ea/\s'.os=s.os/\AllBare s'.gens/\Un (frs outer) [] H H' s.heap s'.heap/\HOk P w H' s'.heap/\E (.ref C) none H' /\
  XAt (λ b=>s.heap.get? b=none/\H' b=none) none s'.heap ea (.ref C)
theorem cx1_E0 {P:Program} {w:World} {H:Hp} {s:Shared} {e:Value} {s':Shared} (h:CX1 P w [] H s E0 e s'):False:=by
  obtain ⟨_,_,_,_,_,_,_,_,h,_⟩:=h
  exact h
section
variable {X:Cx} {W:XP}
theorem po1 (Dc:DefCx X):PassesOwn (model X.prog X.w) X.A X.env (XeOk X W):=by
  rintro e s ⟨ea,σ,H,G,c,C,rfl,I,hc,hw,x⟩
  show wpAny _ _ (noteFrame (.ref ea) X.env) _ _ s
  refine note_ok Dc I x λ s1 I1 x1=>?_
  obtain ⟨oe,vs,T,oT,ts,he,_,hd,h1,_⟩:=id x1.obj
  refine wpAny_bind (wpAny_field he hd h1 ?_)
  rw [if_neg (show ¬ ((Value.ref T == Value.none)=true) by exact Bool.false_ne_true),Dc.frm]
  refine flight_ok I1 x1 rfl λ s2 I2 x2=>?_
  exact ⟨ea,σ,H,G,c,C,rfl,I2,hc,hw,x2.at (λ _ h=>h) (.inr ⟨_,rfl,rfl⟩)⟩
theorem pw1 (Dc:DefCx X):PassW (CX1 X.prog X.w) (X.xw W) W:=by
  rintro pins σ H s e s' I ⟨ea,C,H',rfl,os,bare,un,hok,⟨c,G',⟨C',e1,hc⟩,hw⟩,x⟩
  cases e1
  have I:=I.unwish
  have I2:=I.call' (ch:=[]) os un hok bare (λ b z=>absurd z (by simp))
  have fp:∀ b,(s.heap.get? b=none/\H' b=none)->Fp X [] H' b:=λ b ⟨h1,h2⟩=>fp_unpin (inv_fp Dc I h1 h2)
  obtain ⟨oe,vs,he,h2,hd,ht⟩:=x.obj
  refine ⟨ea,σ,H',G',c,C,rfl,inv_unpin I2,hc,hw,fp _ x.me,oe,vs,he,h2,hd,?_⟩
  rcases ht with h1 | ⟨T,oT,ts,h1,fT,nT,gT,dT,h3⟩
  · exact .inl h1
  · refine .inr ⟨T,oT,ts,h1,fp _ fT,nT,gT,dT,?_⟩
    rcases h3 with h3 | ⟨l,hl,_⟩
    · exact .inl h3
    · cases hl
theorem pwB {P:Program} {w:World}:PassW (CX1 P w) X XP0:=by
  rintro pins σ H s e s' I ⟨ea,C,H',rfl,os,bare,un,hok,⟨c,G',_,hw⟩,x⟩
  exact hw.elim
theorem pss_wish {st:List Stmt} {t:TS} (h:PSs (X.xw W) st t) (hx:∀ e s,XeOk X W e s->X.xe e s):PSs X st t:=λ pins s σ H D I hw =>
  wpAny_mono (h pins s σ H D (I.wish _) hw) (λ _ _ q=>q.unwish) λ e s z=>hx e s z
end
section
variable {P:Program} {w:World} {K:PySem.W.Frag} {mg:Str->Option Value} {base:Heap}
theorem fn_R1 {x qual:Str} {st:Stmt} {f:Addr} {fd:FuncData} {N ps:List Str} {k:Nat} {S:Ga->RS} (Fn:Fun K x qual st f fd) (Sc:FnScope N ps (defScope st))
    (B:∀ (cdv:Value) (A:Around) (outer:List Env) (s:Shared) (H:Hp) (W:XP) (E:XK),Room k (A.deeper (envOfC qual (defScope st) s.heap.objs.size f cdv)) ->
      ExDs ((cxOf (CX1 P w) P w K mg base N qual (defScope st) f cdv A outer s H E).xw W) W (defBody st) S) :
    FnOk P w K mg base (CX1 P w) (k + 1) f fd ps (spF K mg ps.length λ ds=>callR N S ds):=by
  obtain ⟨oc,od,kV,doc,pm,an,cdv,ct,osl,rfl,lk,hcd⟩:=Fn.ex
  refine fn_of lk hcd Sc (λ vs H Q E h=>?_) λ A outer s H vs Q E hr h=>?_
  · obtain ⟨G,ds,_,_,l,hl,_⟩:=h
    exact l.length.symm.trans hl
  · obtain ⟨G,ds,g,tb,l,hl,q⟩:=h
    obtain ⟨t,p,hd⟩:=B cdv A outer s H (λ c _ H' G'=>Ext H G H' G'/\∀ cls,ClsIs K c cls->E cls none H') E hr
    refine ⟨t,pss_wish p ?_,hd H G _ _ H G (rep_begin g tb l) _ ?_⟩
    · rintro e s' ⟨ea,σ,H',G',c,C,rfl,I,hc,⟨_,hw⟩,x⟩
      have Dc:DefCx (cxOf (CX1 P w) P w K mg base N qual (defScope st) f cdv A outer s H E):=⟨rfl,rfl,rfl⟩
      show wpAny _ _ (leaving _ (.ref ea)) _ _ s'
      unfold leaving
      refine wpAny_bind (note_ok (X:=cxOf (CX1 P w) P w K mg base N qual (defScope st) f cdv A outer s H E) Dc I x λ s1 I1 x1=>?_)
      refine flight_ok (X:=cxOf (CX1 P w) P w K mg base N qual (defScope st) f cdv A outer s H E) (o:=none) I1 x1 rfl λ s2 I2 x2=>?_
      have young:∀ b,Fp (cxOf (CX1 P w) P w K mg base N qual (defScope st) f cdv A outer s H E) [] H' b->s.heap.get? b=none/\H' b=none:=λ b hb=>⟨hb.new,hb.fr⟩
      exact ⟨ea,C,H',rfl,I2.os,I2.bare,I2.base,I2.hok,hw _ ⟨C,rfl,hc⟩,x2.at young (.inl rfl)⟩
    · unfold callR at q
      dsimp only at q
      cases hS:S (begin_ N ds) with
      | rt d=>rw [hS] at q; exact λ v H' G' e dv=>q v H' G' e dv
      | nx Γ=>rw [hS] at q; exact λ σ H' G' R=>q _ H' G' R.ex den_non
      | bk Γ=>rw [hS] at q; exact q.elim
      | ct Γ=>rw [hS] at q; exact q.elim
      | ex c Γ=>rw [hS] at q; exact λ σ H' G' R=>⟨R.ex,λ cls hcls=>q cls none H' G' hcls R.ex⟩
      | no=>rw [hS] at q; exact q.elim
end
end Wy


namespace Wy
open PySem PySem.Spec PyProof.Rows L2
noncomputable def bmV:List Value:=[.type "ValueError",.type "Exception",.type "BaseException",.type "object"]
noncomputable def quietIn (K:PySem.W.Frag) (N:Addr):Bool:=match K.lookup N with
  | some ⟨_,_,.dict es _,_⟩=>es.toList.all (λ e=>match e.key with | .str _ _=>true | _=>false)&&(nsFind es "__init__").isNone
  | _=>false
theorem quiet_ns {K:PySem.W.Frag} {N:Addr} (q:quietIn K N=true):∃ m:Str->Option Value,m "__init__"=none/\∀ h:Heap,K.In h->h.Ns N m:=by
  unfold quietIn at q
  split at q
  · rename_i c d es ep sl e
    rw [Bool.and_eq_true] at q
    refine ⟨λ n=>nsFind es n,Option.isNone_iff_eq_none.mp q.2,λ h X=>⟨_,es,ep,X _ _ e,rfl,λ x hx=>?_,λ _=>rfl⟩⟩
    have:=List.all_eq_true.mp q.1 x (by simpa using hx)
    split at this
    · rename_i n t hk; exact ⟨n,t,hk⟩
    · cases this
  · cases q
structure XCls (K:PySem.W.Frag) (c:Str) (C:Addr) (bm:List Value):Prop where
  at_:PySem.W.nsIn K mainGlobals c=some (some (.ref C))
  obj:∃ nm q N bs hd sn sub ab col dd k0 k1 k2 k3 k5,K.lookup C=some (excClassObj nm q C N bs bm hd sn sub ab col dd k0 k1 k2 k3 k5 "ValueError.__new__")/\quietIn K N=true
  tail:∀ h:Heap,K.In h->OwnTail h bmV bm
section
variable {K:PySem.W.Frag} {c y nm q:Str} {C Y N:Addr} {bs bm sub:List Value} {hd:Bool} {sn:List Str} {ab:Bool} {col:Option Bool} {dd:Option Addr} {k0 k1 k2 k3 k5:Option Value}
theorem xcls_base (a:PySem.W.nsIn K mainGlobals c=some (some (.ref C))) (l:K.lookup C=some (excClassObj nm q C N bs bmV hd sn sub ab col dd k0 k1 k2 k3 k5 "ValueError.__new__")) (z:quietIn K N=true):XCls K c C bmV :=
  ⟨a,⟨_,_,_,_,_,_,_,_,_,_,_,_,_,_,_,l,z⟩,λ _ _=>.base⟩
theorem xcls_sub (a:PySem.W.nsIn K mainGlobals c=some (some (.ref C))) (l:K.lookup C=some (excClassObj nm q C N bs (.ref Y::bmV) hd sn sub ab col dd k0 k1 k2 k3 k5 "ValueError.__new__")) (z:quietIn K N=true) (T:XCls K y Y bmV):XCls K c C (.ref Y::bmV) :=
  ⟨a,⟨_,_,_,_,_,_,_,_,_,_,_,_,_,_,_,l,z⟩,λ h X=>by
    obtain ⟨_,_,_,_,_,_,_,_,_,_,_,_,_,_,_,l',z'⟩:=T.obj
    obtain ⟨m,hi,hn⟩:=quiet_ns z'
    exact .own (X _ _ l') (hn h X) hi .base⟩
end
theorem hok_there {P:Program} {w:World} {H:Hp} {h:Heap} {a:Addr} {o:HO} (k:HOk P w H h) (e:H a=some o):∃ u,h.get? a=some u:=by
  have q:=k a o e
  cases o with
  | lst xs=>obtain ⟨_,its,n,_,g⟩:=q; exact ⟨_,g⟩
  | tup xs=>obtain ⟨_,its,_,o,g,_⟩:=q; exact ⟨_,g⟩
  | dK kvs=>obtain ⟨_,_,vs,_,o,es,ep,g,_⟩:=q; exact ⟨_,g⟩
  | dT kvs=>obtain ⟨_,_,xs,_,o,es,ep,g,_⟩:=q; exact ⟨_,g⟩
  | set S n=>obtain ⟨o,es,ep,t,g,_⟩:=q; exact ⟨_,g⟩
  | ins C dx fs=>obtain ⟨_,_,_,g,_⟩:=q; exact ⟨_,g⟩
  | own x=>exact q
  | xd fs=>obtain ⟨mA,hn,_⟩:=q; obtain ⟨o,_,_,g,_⟩:=hn; exact ⟨_,g⟩
  | rng lo hi=>obtain ⟨_,_,_,g⟩:=q; exact ⟨_,g⟩
  | frz o u=>exact ⟨_,q.1⟩
  | tbl ps=>exact ⟨_,q⟩
  | met f x=>exact ⟨_,q⟩
  | ext φ=>exact q.2.1
theorem hok_new {P:Program} {w:World} {H:Hp} {h:Heap} {a:Addr} (k:HOk P w H h) (e:h.get? a=none):H a=none:=by
  cases q:H a with
  | none=>rfl
  | some o =>
    obtain ⟨u,g⟩:=hok_there k q
    rw [e] at g; cases g
section
variable {X:Cx} {W:XP} {c:Str} {C:Addr} {bm:List Value} {e:Expr} {es:List Expr} {fl:Ga->R (List D)} {np cpos pos:Pos}
noncomputable def sRaise (c:Str) (fl:Ga->R (List D)):Ga->RS:=λ Γ=>.of (fl Γ) Γ λ _=>.ex c Γ
theorem x_raise (Dc:DefCx X) (Xc:XCls X.K c C bm) (hg:Gl X c) (hcalm:X.calm=true) (ha:AvD (X.xw W) W (e::es) fl) (hl:(e::es).length<=1000:=by decide) (hdb:(c == ("__debug__":Str))=false:=by decide)
    (he:starEach (e::es) X.env=(false,eval e X.env)::starEach es X.env:=by rfl) (hpl:(backTo cpos (starEach (e::es) X.env)).any (·.1)=false:=by rfl) :
    ExD (X.xw W) W (.Raise (some (.Call (.Name c np) (e::es) [] cpos)) none pos) (sRaise c fl):=by
  obtain ⟨t,p,hn,q⟩:=ha
  refine ⟨λ D σ H=>t σ H λ vs H1=>vs.length<=sizeLine/\∃ G1,W c σ H1 G1,?_,λ H₀ G₀ Γ σ H G R D w=>?_⟩
  · intro pins s σ H D I h
    obtain ⟨nm,qn,N,bs,hd,sn,sub,ab,col,dd,k0,k1,k2,k3,k5,l,z⟩:=Xc.obj
    obtain ⟨mN,hi,hN⟩:=quiet_ns z
    have hm:X.mg c=some (.ref C):=PySem.W.mg_of I.ok.mod.kin I.ok.mod.glob Xc.at_
    have hbase:bm.contains (.type "BaseException")=true:=(Xc.tail _ I.kIn).hasType (by decide)
    refine wpAny_Raise_call_subU (mN:=mN) (C:=C) (nm:=nm) (q:=qn) (N:=N) (bs:=bs) (bm:=bm) (hdct:=hd) (sn:=sn) (sub:=sub) (ab:=ab) (col:=col) (dd:=dd) (k0:=k0) (k1:=k1) (k2:=k2) (k3:=k3) (k5:=k5) PySem.F.excBase_ValueError (by decide) PySem.F.excBase_ValueError hbase (I.ok.hd hcalm) hpl hi ?_
    refine ld_glob (X:=X.xw W) I hg hm ⟨rfl,?_⟩ hdb
    show wpAny _ X.A (evalArgs (.ref C) true (backTo cpos (starEach (e::es) X.env)) []) _ _ s
    have run:=p cpos pins s σ H _ I h
    rw [show starEach (e::es) (X.xw W).env=(false,eval e X.env)::starEach es X.env from he] at run
    rw [he]
    refine Calls.evalArgs_plain (thn run λ us s1 ⟨vs,H1,I1,rv,hz,G1,hw⟩=>⟨rfl,by rw [<- rv.length]; exact hz,I1.kIn _ _ l,?_,Xc.tail _ I1.kIn,λ h' e' hm'=>?_⟩)
    · exact hN _ I1.kIn
    · have I2:=I1.unwish
      have hH:H1 e'=none:=hok_new I2.hok hm'.new
      obtain ⟨tt,g1,_,_⟩:=hm'.there
      exact ⟨e',σ,H1,G1,c,C,rfl,inv_unpin (I2.kept (t':=s1.toks) λ b o q=>hm'.keeps b o q),Xc.at_,hw,fp_unpin (inv_fp Dc I2 hm'.new hH),_,_,g1,rfl,rfl,.inl rfl⟩
  · exact q _ _ _ _ _ _ R _ (wImp (wLen (hn Γ) (wS R w λ ds w=>w)) (λ _ h=>h) λ ds ⟨hd,w⟩ vs H' G' E1 d1=>⟨by rw [<- d1.length,hd]; exact small24 hl,G',w σ H' G' (R.after E1)⟩)
end
end Wy


namespace Wy
open PySem PySem.Spec PyProof.Rows L2
theorem exc_match {M:Model} {A:Around} {E:Value->Shared->Prop} {nm q nm' q':Str} {C N C' N':Addr} {bs bm bs' bm':List Value} {hd hd':Bool} {sn sn':List Str} {sub sub':List Value} {ab ab':Bool} {col col':Option Bool} {dd dd':Option Addr}
    {k0 k1 k2 k3 k5 j0 j1 j2 j3 j5:Option Value} {newId newId':String} {s:Shared} {e:Addr} {oe:Obj} {Q:Bool->Shared->Prop}
    (hC:s.heap.get? C=some (excClassObj nm q C N bs bm hd sn sub ab col dd k0 k1 k2 k3 k5 newId)) (hC':s.heap.get? C'=some (excClassObj nm' q' C' N' bs' bm' hd' sn' sub' ab' col' dd' j0 j1 j2 j3 j5 newId'))
    (he:s.heap.get? e=some oe) (hcls:oe.cls=.ref C) (hbase:bm'.contains (.type "BaseException")=true) (hq:Q ((Value.ref C::bm).contains (.ref C')) s):wpAny M A (excMatches (.ref e) (.ref C')) Q E s:=by
  obtain ⟨h0,g,d,tk,os⟩:=s
  have hB:(Value.ref C'::bm').contains (.type "BaseException")=true:=by rw [List.contains_cons,hbase,Bool.or_true]
  have f:=tc_notTuple
  unfold excMatches
  repeat (first | (with_reducible refine wpAny_loadPart_at he ?_; rw [hcls]) | with_reducible refine wpAny_loadPart_at hC' ?_ | (with_reducible refine wpAny_isSubtype_exc hC' ?_; rw [hB]) | with_reducible refine wpAny_isSubtype_exc hC ?_ | wp_step)
  cases hz:(Value.ref C::bm).contains (.ref C') <;> (rw [hz] at hq; wp_walk; exact hq)
section
variable {X:Cx} {pins:List (Addr×Obj)} {σ:L2.St} {H:Hp} {s:Shared} {E:Value->Shared->Prop} {M:Model}
theorem inv_track {b:Addr} {o:HO} (I:Inv X pins σ H s) (f:Fp X pins H b) (ok:ObjOk X.prog X.w (upd H b o) s.heap b o):Inv X pins σ (upd H b o) s:=by
  have nh:∀ a u,H a=some u->a≠b:=λ a u e z=>by rw [z,f.fr] at e; cases e
  have ns:∀ a u,X.s₀.heap.get? a=some u->a≠b:=λ a u e z=>by rw [z,f.new] at e; cases e
  refine ⟨I.ok,I.os,I.bare,⟨I.base.keep,I.base.slot,λ a u e n hx=>?_,I.base.there,λ a xs e=>?_,λ a u v e=>?_,λ a ps e=>?_⟩,I.loc,I.cell,?_,λ x c e=>?_,λ p hp=>?_,λ a u e=>?_,I.len⟩
  · rw [upd_ne (ns a u e)]; exact I.base.free a u e n hx
  · have:=I.base.tups a xs e; rw [upd_ne (nh a _ this)]; exact this
  · have:=I.base.frzs a u v e; rw [upd_ne (nh a _ this)]; exact this
  · obtain ⟨m,q⟩:=I.base.tbls a ps e; exact ⟨m,by rw [upd_ne (nh a _ q)]; exact q⟩
  · rw [upd_ne (Ne.symm f.loc)]; exact I.free
  · rw [upd_ne (f.cel x c e)]; exact I.freeC x c e
  · obtain ⟨e,n,r⟩:=I.pin p hp
    exact ⟨e,by rw [upd_ne (f.pin p hp)]; exact n,r⟩
  · by_cases z:a=b
    · subst z; rw [upd_same] at e; cases e; exact ok
    · rw [upd_ne z] at e
      exact (I.hok a u e).stay (λ c v _ q=>q) (λ c q=>by rw [upd_ne (nh c _ q)]; exact q) λ c ys q=>by rw [upd_ne (nh c _ q)]; exact q
theorem unbind_ok {j:Nat} {n:Str} {pos:Pos} {Q:Unit->Shared->Prop} (I:Inv X pins σ H s) (hN:X.N.Nodup) (hj:X.N[j]?=some n) (hl:X.env.scope.names.lookup n=some .local)
    (go:∀ s',Inv X pins (σ.set j none) H s'->Q () s'):wpAny M X.A (do bindName X.env n .none; unbindBehindTheSuite X.env n pos) Q E s:=by
  refine wpAny_bind (wpAny_bindName (store_ok (v:=.non) (u:=.none) I hN hj (.inl hl) rfl (λ s1 I1=>?_) (.inr hl)))
  have hjl:j < σ.length:=by rw [I.len]; exact (List.getElem?_eq_some_iff.mp hj).1
  obtain ⟨m,hn,hlk⟩:=I1.loc
  obtain ⟨u,ru,lk⟩:=hlk j n .non hj (List.getElem?_set_self hjl) (.inl hl)
  have hm:m n=some u:=by
    rcases lk with ⟨_,q⟩ | ⟨q,_⟩
    · exact q
    · have hl':X.env.kindOf n=some .local:=hl
      rcases q with q | q <;> (rw [hl'] at q; cases q)
  have hk:=I1.ok.kind
  have hp:(X.env.scope.kind == .class||(X.env.scope.kind == .module&&X.env.locals != X.env.globals))=false:=by rw [hk]; rfl
  have hl':X.env.kindOf n=some .local:=hl
  unfold unbindBehindTheSuite unbindName deleteName
  refine wpAny_onRaise (wpAny_bind (wpAny_point (wpAny_bind ?_)))
  simp only [hl',hp]
  rw [if_neg Bool.false_ne_true]
  refine wpAny_bind (wpAny_nsDel_keeps hn λ g1 v hn1 sb=>?_)
  rw [hm]
  simp only [Option.isSome_some,Bool.not_true,Bool.false_eq_true,if_false]
  refine wpAny_pure (wpAny_point (go _ ?_))
  have nL:∀ a o,X.s₀.heap.get? a=some o->a≠X.env.locals:=λ a o e=>Nat.ne_of_lt (Nat.lt_of_lt_of_le (Heap.lt_size e) I1.ok.above)
  have nH:∀ a o,H a=some o->a≠X.env.locals:=λ a o e z=>by rw [z,I1.free] at e; cases e
  have ck:∀ x c,X.env.cells.lookup x=some c->∀ v,s1.heap.IsCell c v->g1.IsCell c v:=λ x c e v z=>z.sameBut sb (I1.cne x c e)
  refine ⟨I1.ok,I1.os,I1.bare,⟨λ a o e n' hb hx=>?_,λ a o e n' hb hx=>?_,I1.base.free,λ a o e hx=>?_,I1.base.tups,I1.base.frzs,I1.base.tbls⟩,⟨_,hn1,λ i x w e1 e2 e3=>?_⟩,λ x c e=>?_,I1.free,I1.freeC,λ p hp=>?_,λ a o e=>?_,by rw [List.length_set]; exact I.len⟩
  · exact (sb.2 a (nL a o e)).trans (I1.base.keep a o e n' hb hx)
  · obtain ⟨sl,q⟩:=I1.base.slot a o e n' hb hx; exact ⟨sl,(sb.2 a (nL a o e)).trans q⟩
  · obtain ⟨o',q⟩:=I1.base.there a o e hx; exact ⟨o',(sb.2 a (nL a o e)).trans q⟩
  · by_cases z:j=i
    · subst z
      rw [List.getElem?_set_self hjl] at e2
      cases e2
    · rw [List.getElem?_set_ne z] at e2
      have nx:x≠n:=λ q=>z (nodup_ix hN (q ▸ hj) e1)
      obtain ⟨w',rw',l⟩:=hlk i x w e1 (by rw [List.getElem?_set_ne z]; exact e2) e3
      refine ⟨w',rw',?_⟩
      rcases l with ⟨q1,q2⟩ | ⟨q,c,q1,q2⟩
      · exact .inl ⟨q1,by show (if x=n then v else m x)=_; rw [if_neg nx]; exact q2⟩
      · exact .inr ⟨q,c,q1,ck x c q1 _ q2⟩
  · obtain ⟨v',z⟩:=I1.cell x c e; exact ⟨v',ck x c e v' z⟩
  · obtain ⟨q1,q2,q3,q4⟩:=I1.pin p hp; exact ⟨(sb.2 p.1 q3).trans q1,q2,q3,q4⟩
  · refine (I1.hok a o e).stay (λ d w hc q=>(sb.2 d ?_).trans q) (λ _ q=>q) λ _ _ q=>q
    rcases hc with z | z
    · subst z; exact nH d o e
    · exact nH d _ z
end
noncomputable abbrev _root_.L2.Cx.inT (X:Cx) (pn:List (Addr×Obj)):Cx:={ X with pn:=pn }
noncomputable abbrev _root_.L2.Cx.inH (X:Cx) (pn:List (Addr×Obj)) (A:Around):Cx:={ X with pn:=pn,A:=A,calm:=false }
section
variable {X:Cx} {pins pn:List (Addr×Obj)} {σ:L2.St} {H:Hp} {s:Shared}
theorem inv_inT (I:Inv X pins σ H s):Inv (X.inT (X.pn++pins)) [] σ H s :=
  ⟨⟨I.ok.mod,I.ok.kind,I.ok.glob,I.ok.blt,I.ok.above,I.ok.inj,I.ok.has,I.ok.cab,I.ok.hd,I.ok.frames,I.ok.stk,I.ok.exf,I.ok.bs,I.ok.bsz,I.ok.noex,I.ok.exfs,I.ok.funs,I.ok.frf⟩,
    I.os,I.bare,I.base,I.loc,I.cell,I.free,I.freeC,λ p hp=>I.pin p (by rw [List.append_nil] at hp; exact hp),I.hok,I.len⟩
theorem inv_outT (ok:X.Ok) (I:Inv (X.inT (X.pn++pins)) [] σ H s):Inv X pins σ H s :=
  ⟨ok,I.os,I.bare,I.base,I.loc,I.cell,I.free,I.freeC,λ p hp=>I.pin p (by rw [List.append_nil]; exact hp),I.hok,I.len⟩
theorem inv_inH {v:Value} (I:Inv (X.inT pn) [] σ H s):Inv (X.inH pn (X.A.mark (some v))) [] σ H s :=
  ⟨⟨I.ok.mod,I.ok.kind,I.ok.glob,I.ok.blt,I.ok.above,I.ok.inj,I.ok.has,I.ok.cab,(λ z=>nomatch z),I.ok.frames,I.ok.stk,I.ok.exf,I.ok.bs,I.ok.bsz,I.ok.noex,I.ok.exfs,I.ok.funs,I.ok.frf⟩,
    I.os,I.bare,I.base,I.loc,I.cell,I.free,I.freeC,I.pin,I.hok,I.len⟩
theorem inv_outH {A:Around} (ok:(X.inT pn).Ok) (I:Inv (X.inH pn A) [] σ H s):Inv (X.inT pn) [] σ H s :=
  ⟨ok,I.os,I.bare,I.base,I.loc,I.cell,I.free,I.freeC,I.pin,I.hok,I.len⟩
end
noncomputable def Falls (K:PySem.W.Frag) (v:Value) (tb:Str->Option Bool):Prop:=∀ c b,tb c=some b->∃ C bm,XCls K c C bm/\(Value.ref C::bm).contains v=b
noncomputable def sTry (tb:Str->Option Bool) (T:Ga->RS) (U:Str->Ga->RS):Ga->RS:=λ Γ=>match T Γ with
  | .ex c Γ'=>(match tb c with
    | some true=>U c Γ'
    | some false=>.ex c Γ'
    | none=>.no)
  | r=>r
noncomputable def hNamed (j:Nat) (U:Ga->RS):Str->Ga->RS:=λ c Γ=>match U (Γ.set j (.exc c)) with
  | .nx Γ'=>.nx (Γ'.set j .un)
  | .bk Γ'=>.bk (Γ'.set j .un)
  | .ct Γ'=>.ct (Γ'.set j .un)
  | .rt d=>.rt d
  | _=>.no
noncomputable def Handles (X:Cx) (h:ExceptHandler) (tb:Str->Option Bool) (U:Str->Ga->RS):Prop :=
  ∀ (W:XP) (pins:List (Addr×Obj)) (D:Ends) (H₀ G₀:Hp) (Γ:Ga) (σ:L2.St) (H G:Hp) (s:Shared) (e C:Addr) (c:Str),X.Ok->Inv (X.inT (X.pn++pins)) [] σ H s->PySem.W.nsIn X.K mainGlobals c=some (some (.ref C)) ->
    XOn (Fp (X.inT (X.pn++pins)) [] H) .none s.heap e (.ref C)->Rep X.K H₀ G₀ Γ σ H G->Lifts X.K W H₀ G₀ (match tb c with
      | some true=>U c Γ
      | some false=>.ex c Γ
      | none=>.no) D->wpAny (model X.prog X.w) X.A (handleBy (.ref e) X.env [h]) (SP X pins D) (XeOk X W) s
section
variable {X:Cx} {W:XP} {body:List Stmt} {h:ExceptHandler} {pos:Pos} {T:Ga->RS} {U:Str->Ga->RS} {tb:Str->Option Bool}
theorem x_try (Dc:DefCx X) (hb:∀ (pn:List (Addr×Obj)) (W':XP),ExDs ((X.inT pn).xw W') W' body T) (hh:Handles X h tb U):ExD (X.xw W) W (.Try body [h] [] [] pos) (sTry tb T U):=by
  refine ⟨λ D σ H=>∃ (H₀ G₀:Hp) (Γ:Ga) (G:Hp),Rep X.K H₀ G₀ Γ σ H G/\Lifts X.K W H₀ G₀ (sTry tb T U Γ) D,?_,λ H₀ G₀ Γ σ H G R D w=>⟨H₀,G₀,Γ,G,R,w⟩⟩
  rintro pins s σ H D I ⟨H₀,G₀,Γ,G,R,w⟩
  have I:=I.unwish
  have ok:=I.ok
  have I1:=inv_inT I
  obtain ⟨t,p,q⟩:=hb (X.pn++pins) (λ c σ' H' G'=>∃ Γ',Rep X.K H₀ G₀ Γ' σ' H' G'/\Lifts X.K W H₀ G₀ (match tb c with
      | some true=>U c Γ'
      | some false=>.ex c Γ'
      | none=>.no) D)
  refine wpAny_Try_except ?_
  have run:=p [] s σ H D (I1.wish _) (q H₀ G₀ Γ σ H G R D ?_)
  · refine wpAny_mono run (λ f s1 hf=>?_) λ e s1 hx=>?_
    · have hf:=hf.unwish
      cases f with
      | next =>
        obtain ⟨σ',H',I',q'⟩:=hf
        exact wpAny_execs_nil ⟨σ',H',(inv_outT ok I').wish _,q'⟩
      | brk=>obtain ⟨σ',H',I',q'⟩:=hf; exact ⟨σ',H',(inv_outT ok I').wish _,q'⟩
      | cont=>obtain ⟨σ',H',I',q'⟩:=hf; exact ⟨σ',H',(inv_outT ok I').wish _,q'⟩
      | ret u=>obtain ⟨v,σ',H',I',r',q'⟩:=hf; exact ⟨v,σ',H',(inv_outT ok I').wish _,r',q'⟩
    · obtain ⟨ea,σ',H',G',c,C,rfl,I',hc,⟨Γ',R',w'⟩,x⟩:=hx
      have Dc1:DefCx (X.inT (X.pn++pins)):=⟨Dc.stk,Dc.frm,Dc.ex⟩
      refine note_ok (X:=X.inT (X.pn++pins)) Dc1 I' x λ s2 I2 x2=>?_
      refine flight_ok (X:=X.inT (X.pn++pins)) (o:=none) I2 x2 rfl λ s3 I3 x3=>?_
      refine wpAny_mono (hh W pins D H₀ G₀ Γ' σ' H' G' s3 ea C c ok I3 hc x3 R' w') (λ f s4 hf=>?_) λ _ _ z=>z
      cases f with
      | next=>obtain ⟨σ',H',I',q'⟩:=hf; exact ⟨σ',H',I'.wish _,q'⟩
      | brk=>obtain ⟨σ',H',I',q'⟩:=hf; exact ⟨σ',H',I'.wish _,q'⟩
      | cont=>obtain ⟨σ',H',I',q'⟩:=hf; exact ⟨σ',H',I'.wish _,q'⟩
      | ret u=>obtain ⟨v,σ',H',I',r',q'⟩:=hf; exact ⟨v,σ',H',I'.wish _,r',q'⟩
  · unfold sTry at w
    cases hT:T Γ with
    | nx Γ'=>rw [hT] at w; exact w
    | rt d=>rw [hT] at w; exact w
    | bk d=>rw [hT] at w; exact w
    | ct d=>rw [hT] at w; exact w
    | ex c Γ'=>rw [hT] at w; exact λ σ H G R=>⟨Γ',R,w⟩
    | no=>rw [hT] at w; exact w
end
end Wy


namespace Wy
open PySem PySem.Spec PyProof.Rows L2
section
variable {X:Cx} {pins pn:List (Addr×Obj)} {σ:L2.St} {H:Hp} {s:Shared} {A:Around}
theorem fp_inH {b:Addr} (f:Fp (X.inT pn) [] H b):Fp (X.inH pn A) [] H b:=⟨f.fr,f.loc,f.fs,f.new,f.cel,f.pin⟩
theorem fp_outT {b:Addr} (f:Fp (X.inT (X.pn++pins)) [] H b):Fp X [] H b:=⟨f.fr,f.loc,f.fs,f.new,f.cel,λ p hp=>f.pin p (by rw [List.append_nil] at hp ⊢; exact List.mem_append_left _ hp)⟩
theorem xon_imp {ok ok':Addr->Prop} {n:Value} {h:Heap} {e:Addr} {cls:Value} (x:XOn ok n h e cls) (f:∀ b,ok b->ok' b):XOn ok' n h e cls:=by
  obtain ⟨oe,vs,T,oT,ts,h1,h2,h3,h4,h5,h6⟩:=x.obj
  exact ⟨f _ x.me,oe,vs,T,oT,ts,h1,h2,h3,h4,f _ h5,h6⟩
end
section
variable {X:Cx} {W:XP} {x:Str} {Ch:Addr} {bmh:List Value} {np hpos:Pos} {b₀:Stmt} {suite:List Stmt} {U:Ga->RS} {tb:Str->Option Bool}
theorem handles_of {name:Option Str} {V:Str->Ga->RS} (Dc:DefCx X) (Xc:XCls X.K x Ch bmh) (hg:Gl X x) (ft:Falls X.K (.ref Ch) tb) (hdb:(x == ("__debug__":Str))=false)
    (hs:∀ (pins:List (Addr×Obj)) (W:XP) (D:Ends) (H₀ G₀:Hp) (Γ:Ga) (σ:L2.St) (H G:Hp) (s:Shared) (e C:Addr) (c:Str),X.Ok->Inv (X.inH (X.pn++pins) (X.A.mark (some (.ref e)))) [] σ H s->(X.inT (X.pn++pins)).Ok ->
      PySem.W.nsIn X.K mainGlobals c=some (some (.ref C))->XOn (Fp (X.inT (X.pn++pins)) [] H) .none s.heap e (.ref C)->Rep X.K H₀ G₀ Γ σ H G->Lifts X.K W H₀ G₀ (V c Γ) D ->
      codeAny (model X.prog X.w) (X.A.mark (some (.ref e))) (.handlers (.ref e) [.ExceptHandler none name (b₀::suite) hpos] X.env) (λ r s₂=>match r with
          | .ok f=>(match name with
            | none=>SP X pins D f s₂
            | some n=>wpAny (model X.prog X.w) X.A (do bindName X.env n .none; unbindBehindTheSuite X.env n hpos) (λ _ s₃=>SP X pins D f s₃) (XeOk X W) s₂)
          | .error y=>cameBackBy (model X.prog X.w) X.A X.env (XeOk X W) y s₂) s) :
    Handles X (.ExceptHandler (some (.Name x np)) name (b₀::suite) hpos) tb V:=by
  intro W pins D H₀ G₀ Γ σ H G s e C c ok I hc xo R w
  cases hb:tb c with
  | none=>rw [hb] at w; exact w.elim
  | some b =>
    rw [hb] at w
    obtain ⟨C',bm,Xe,hin⟩:=ft c b hb
    have hC:C'=C:=by
      have:=Xe.at_.symm.trans hc
      cases this; rfl
    subst hC
    have I2:=inv_inH (v:=.ref e) I
    have hm:X.mg x=some (.ref Ch):=PySem.W.mg_of I.ok.mod.kin I.ok.mod.glob Xc.at_
    refine wpAny_handleBy_cons (codeAny_handlers_test ?_) (by intro z; cases z)
    refine ld_glob (X:=X.inH (X.pn++pins) (X.A.mark (some (.ref e)))) I2 hg hm ?_ hdb
    obtain ⟨_,_,_,_,_,_,_,_,_,_,_,_,_,_,_,l1,_⟩:=Xe.obj
    obtain ⟨_,_,_,_,_,_,_,_,_,_,_,_,_,_,_,l2,_⟩:=Xc.obj
    obtain ⟨oe,vs,T,oT,ts,he,hcl,hd,h1,_⟩:=id xo.obj
    refine exc_match (I.kIn _ _ l1) (I.kIn _ _ l2) he hcl ((Xc.tail _ I.kIn).hasType (by decide)) ?_
    rw [hin]
    cases b with
    | true=>exact hs pins W D H₀ G₀ Γ σ H G s e C' c ok I2 I.ok hc xo R w
    | false =>
      refine wpAny_handleBy_nil ?_
      unfold PySem.passOn
      refine wpAny_bind (wpAny_field he hd h1 ?_)
      rw [if_neg (show ¬ ((Value.ref T == Value.none)=true) by exact Bool.false_ne_true),Dc.frm]
      refine wpAny_bind (flight_ok (X:=X.inT (X.pn++pins)) (o:=some X.env.locals) I xo rfl λ s2 I3 x3=>wpAny_throw ?_)
      exact ⟨e,σ,H,G,c,C',rfl,inv_unpin (inv_outT ok I3),hc,w σ H G R,x3.at (λ b hb=>fp_outT hb) (.inr ⟨_,rfl,rfl⟩)⟩
theorem h_named (j:Nat) {n:Str} (Dc:DefCx X) (Xc:XCls X.K x Ch bmh) (hg:Gl X x) (ft:Falls X.K (.ref Ch) tb) (hs:∀ (pn:List (Addr×Obj)) (A:Around),ExDs ((X.inH pn A).nox) XP0 (b₀::suite) U) (hN:X.N.Nodup) (hj:X.N[j]?=some n:=by rfl)
    (hl:X.env.scope.names.lookup n=some .local:=by rfl) (hdb:(x == ("__debug__":Str))=false:=by decide) :
    Handles X (.ExceptHandler (some (.Name x np)) (some n) (b₀::suite) hpos) tb (hNamed j U):=by
  refine handles_of Dc Xc hg ft hdb λ pins W D H₀ G₀ Γ σ H G s e C c ok I okT hc xo R w=>?_
  refine codeAny_handlers_suite_as (flight_ok (X:=X.inH (X.pn++pins) (X.A.mark (some (.ref e)))) (o:=none) I (xon_imp xo λ b hb=>fp_inH hb) rfl λ s1 I1 x1=>?_)
  obtain ⟨oe,_,_,_,_,he,hcl,_⟩:=id x1.obj
  have hH:H e=none:=xo.me.fr
  have It:=inv_track (o:=.ext (ExcIs e C)) I1 x1.me ⟨⟨oe,he,hcl⟩,⟨oe,he⟩,λ h1 h2 ⟨o,g,k⟩ st=>⟨o,st o g,k⟩⟩
  have E1:Ext H G (upd H e (.ext (ExcIs e C))) (upd G e (.ext (ExcIs e C))):=Ext.alloc R.gh hH _
  have R1:=(R.after E1).setX j (c:=c) (v:=.ref e) ⟨e,C,rfl,hc,upd_same⟩
  refine store_ok (X:=X.inH (X.pn++pins) (X.A.mark (some (.ref e)))) (v:=.ref e) It hN hj (.inl hl) rfl (λ s2 I2=>?_) (.inr hl)
  obtain ⟨t,p,q⟩:=hs (X.pn++pins) (X.A.mark (some (.ref e)))
  have ub:∀ {σ':L2.St} {H':Hp} {s3:Shared} {Q:Unit->Shared->Prop},Inv (X.inH (X.pn++pins) (X.A.mark (some (.ref e)))) [] σ' H' s3->(∀ s',Inv X pins (σ'.set j none) H' s'->Q () s') ->
      wpAny (model X.prog X.w) X.A (do bindName X.env n .none; unbindBehindTheSuite X.env n hpos) Q (XeOk X W) s3:=λ I' go =>
    unbind_ok (X:=X.inT (X.pn++pins)) (inv_outH okT I') hN hj hl λ s' J=>go s' (inv_outT ok J)
  refine wpAny_mono (p [] s2 _ _ { nx:=λ σ H=>D.nx (σ.set j none) H,rt:=D.rt,bk:=λ σ H=>D.bk (σ.set j none) H,ct:=λ σ H=>D.ct (σ.set j none) H } (I2.wish _) (q H₀ G₀ _ _ _ _ R1 _ ?_)) (λ f s3 hf=>?_) λ _ _ z=>z.elim
  · unfold hNamed at w
    cases hU:U (Γ.set j (.exc c)) with
    | nx Γ'=>rw [hU] at w; exact λ σ H G R=>w _ _ _ (R.setU j)
    | rt d=>rw [hU] at w; exact w
    | bk Γ'=>rw [hU] at w; exact λ σ H G R=>w _ _ _ (R.setU j)
    | ct Γ'=>rw [hU] at w; exact λ σ H G R=>w _ _ _ (R.setU j)
    | ex c Γ'=>rw [hU] at w; exact w.elim
    | no=>rw [hU] at w; exact w
  · have hf:=hf.unwish
    cases f with
    | next=>obtain ⟨σ',H',I',q'⟩:=hf; exact ub I' λ s' J=>⟨_,H',J,q'⟩
    | brk=>obtain ⟨σ',H',I',q'⟩:=hf; exact ub I' λ s' J=>⟨_,H',J,q'⟩
    | cont=>obtain ⟨σ',H',I',q'⟩:=hf; exact ub I' λ s' J=>⟨_,H',J,q'⟩
    | ret u=>obtain ⟨v,σ',H',I',r',q'⟩:=hf; exact ub I' λ s' J=>⟨v,_,H',J,r',q'⟩
end
theorem isx_yes {K:PySem.W.Frag} {prog:Program} {w:World} {A:Around} {E:Value->Shared->Prop} {s:Shared} {Q:Value->Shared->Prop} {x C:Addr} {o:Obj} {c:Value} (X:K.In s.heap) (hx:s.heap.get? x=some o) (hc:o.cls=.ref C)
    (hk:PySem.W.kitOne K (.ref C) c=some true) (h:Q (.bool true) s):wpAny (model prog w) A (call (.builtin "isinstance") [.ref x,c]) Q E s:=by
  obtain ⟨h0,g,d,tk,os⟩:=s
  have ty:∀ {A:Around} {Q:Value->Shared->Prop} {E:Value->Shared->Prop},Q (.ref C) ⟨h0,g,d,tk,os⟩->wpAny (model prog w) A (typeOf (.ref x)) Q E ⟨h0,g,d,tk,os⟩:=λ {A Q E} q=>by
    unfold typeOf
    first
      | exact wpAny_bind (wpAny_loadPart hx (wpAny_pure (by rw [hc]; exact q)))
      | (refine wpAny_bind (wpAny_loadPart hx ?_); rw [hc]; exact wpAny_pure q)
  refine call_isinstance_of ?_
  unfold Builtin.«isinstance.nested»
  refine wpAny_bind (ty ?_)
  unfold PySem.W.kitOne at hk
  by_cases q:(Value.ref C == c)=true
  · rw [if_pos q]
    repeat (first | refine wpAny_pure ?_ | refine wpAny_rule ?_ | refine wpAny_bind ?_)
    exact h
  · rw [if_neg q] at hk ⊢
    obtain ⟨h1,h2,h3⟩:=PySem.W.kit_cls (M:=model prog w) X hk
    refine wpAny_bind (h1.at ?_)
    rw [if_pos (by decide)]
    k_delta "plainIsInstance"
    refine wpAny_bind (wpAny_bind (h2.at ?_))
    simp only [Bool.not_true,Bool.false_eq_true,if_false]
    unfold isInstance
    refine wpAny_bind (wpAny_bind (ty (h3.at ?_)))
    simp only [if_true]
    first
      | exact wpAny_pure (wpAny_pure h)
      | exact wpAny_pure h
      | exact wpAny_bind (wpAny_pure (wpAny_pure h))
section
variable {X:Cx} {W:XP} {pos p p2 p3:Pos} {n nT:Str}
theorem call_isx:CallR X (.builtin "isinstance") (λ xs H Q=>∃ a C cv,xs=[.ref a,cv]/\H a=some (.ext (ExcIs a C))/\(∀ u,RelV cv u->PySem.W.kitOne X.K (.ref C) u=some true)/\Q (.bl true) H):=by
  rintro pins s σ H xs us Q I rv ⟨a,C,cv,rfl,hH,hk,q⟩
  obtain ⟨u,c,rfl,rx,rc⟩:=rv.two
  cases (show u=Value.ref a from rx)
  obtain ⟨⟨o,g,hc⟩,_,_⟩:=(show ObjOk X.prog X.w H s.heap a (.ext (ExcIs a C)) from I.hok a _ hH)
  exact isx_yes I.kIn g hc (hk c rc) ⟨.bl true,H,I,rfl,q⟩
noncomputable def FallsY (K:PySem.W.Frag) (cv:V) (tb:Str->Bool):Prop:=∀ c,tb c=true->∃ C,PySem.W.nsIn K mainGlobals c=some (some (.ref C))/\∀ u,RelV cv u->PySem.W.kitOne K (.ref C) u=some true
noncomputable def eIsx (j:Nat) (tb:Str->Bool):Ga->R D:=λ Γ=>match Γ[j]? with
  | some (.exc c)=>if tb c=true then .ok (.bl true) else .no
  | _=>.no
theorem ev_isx (j:Nat) {cv:V} {tb:Str->Bool} (hg:Gl X "isinstance") (hm:X.mg "isinstance"=none) (pT:PE X (.Name nT p3) (tC cv)) (ft:FallsY X.K cv tb) (hvi:bootBuiltins "isinstance"=some (.builtin "isinstance"))
    (hN:X.N[j]?=some n:=by rfl) (hv:Vis X.env.scope n:=by first | exact Or.inl rfl | exact Or.inr (Or.inl rfl) | exact Or.inr (Or.inr rfl)) (hd:(n == ("__debug__":Str))=false:=by decide)
    (hcd:(n == ("__classdict__":Str))=false:=by decide)
    (hs:starEach [.Name n p2,.Name nT p3] X.env=(false,eval (.Name n p2) X.env)::starEach [.Name nT p3] X.env:=by rfl) (hs2:starEach [.Name nT p3] X.env=[(false,eval (.Name nT p3) X.env)]:=by rfl) :
    EvD X W (.Call (.Name "isinstance" p) [.Name n p2,.Name nT p3] [] pos) (eIsx j tb):=by
  refine ⟨_,pe_callB call_isx hg hm hvi (pa_cons (pe_var hN hv hd hcd) (pa_cons pT pa_nil hs2) hs) (by decide) (by decide) hs (by rw [hs2]; rfl),λ H₀ G₀ Γ σ H G R Q w=>?_⟩
  unfold eIsx at w
  split at w
  · rename_i c hc
    split at w
    · rename_i ht
      obtain ⟨v,e1,a,C,rfl,e2,e3⟩:=R.xc j c hc
      obtain ⟨C',e4,hk⟩:=ft c ht
      rw [e2] at e4
      cases e4
      exact ⟨_,e1,a,C,cv,rfl,R.gh _ _ e3,hk,w _ H G (.refl R.gh) den_bl⟩
    · exact w.elim
  · exact w.elim
end
end Wy


namespace Wy
open PySem PySem.Spec PyProof.Rows L2
mutual
noncomputable def eqDD:D->D->Bool
  | .non,.non=>true
  | .bl a,.bl b=>a == b
  | .bl a,.int b=>(if a then 1 else 0) == b
  | .int a,.bl b=>a == (if b then 1 else 0)
  | .int a,.int b=>a == b
  | .str a,.str b=>a == b
  | .tup xs,.tup ys=>eqDL xs ys
  | .lst xs,.lst ys=>eqDL xs ys
  | _,_=>false
noncomputable def eqDL:List D->List D->Bool
  | [],[]=>true
  | x::xs,y::ys=>eqDD x y&&eqDL xs ys
  | _,_=>false
end
mutual
noncomputable def depD:D->Nat
  | .tup xs=>depDL xs + 1
  | .lst xs=>depDL xs + 1
  | _=>0
noncomputable def depDL:List D->Nat
  | []=>0
  | x::xs=>max (depD x) (depDL xs)
end
theorem eqDL_at:∀ (xs ys:List D),eqDL xs ys=((List.range (min xs.length ys.length)).all (λ j=>eqDD (xs.getD j .non) (ys.getD j .non))&&xs.length == ys.length)
  | [],[]=>by unfold eqDL; rfl
  | [],y::ys=>by unfold eqDL; simp
  | x::xs,[]=>by unfold eqDL; simp
  | x::xs,y::ys=>by
    unfold eqDL
    rw [eqDL_at xs ys,List.length_cons,List.length_cons,show min (xs.length + 1) (ys.length + 1)=min xs.length ys.length + 1 by omega,List.range_succ_eq_map,List.all_cons,List.all_map]
    simp only [List.getD_cons_zero,Function.comp_def,List.getD_cons_succ]
    rw [Bool.and_assoc]
    congr 1
    congr 1
    rw [Bool.eq_iff_iff]
    simp
theorem dep_get:∀ {xs:List D} {j:Nat} {d:D},xs[j]?=some d->depD d<=depDL xs
  | x::xs,0,d,h=>by
    cases h
    unfold depDL
    exact Nat.le_max_left _ _
  | x::xs,j + 1,d,h=>by
    have:=dep_get (xs:=xs) (j:=j) (by simpa using h)
    unfold depDL
    exact Nat.le_trans this (Nat.le_max_right _ _)
  | [],_,_,h=>by simp at h
section
variable {X:Cx} {pins:List (Addr×Obj)} {σ:L2.St} {H G:Hp} {s:Shared}
mutual
theorem den_inj (I:Inv X pins σ H s) (g:Same G H):(d1 d2:D)->(v:V)->Den X.K G d1 v->Den X.K G d2 v->d1=d2
  | .non,d2,v,h1,h2=>by
    cases den_nonE h1
    cases d2 with
    | non=>rfl
    | bl b=>cases den_blE h2
    | int b=>cases den_intE h2
    | str b=>cases den_strE h2
    | tup b=>obtain ⟨a,vs,e,_⟩:=den_tup.mp h2; cases e
    | lst b=>obtain ⟨a,vs,e,_⟩:=den_lst.mp h2; cases e
  | .bl x,d2,v,h1,h2=>by
    cases den_blE h1
    cases d2 with
    | non=>cases den_nonE h2
    | bl b=>cases den_blE h2; rfl
    | int b=>cases den_intE h2
    | str b=>cases den_strE h2
    | tup b=>obtain ⟨a,vs,e,_⟩:=den_tup.mp h2; cases e
    | lst b=>obtain ⟨a,vs,e,_⟩:=den_lst.mp h2; cases e
  | .int x,d2,v,h1,h2=>by
    cases den_intE h1
    cases d2 with
    | non=>cases den_nonE h2
    | bl b=>cases den_blE h2
    | int b=>cases den_intE h2; rfl
    | str b=>cases den_strE h2
    | tup b=>obtain ⟨a,vs,e,_⟩:=den_tup.mp h2; cases e
    | lst b=>obtain ⟨a,vs,e,_⟩:=den_lst.mp h2; cases e
  | .str x,d2,v,h1,h2=>by
    cases den_strE h1
    cases d2 with
    | non=>cases den_nonE h2
    | bl b=>cases den_blE h2
    | int b=>cases den_intE h2
    | str b=>cases den_strE h2; rfl
    | tup b=>obtain ⟨a,vs,e,_⟩:=den_tup.mp h2; cases e
    | lst b=>obtain ⟨a,vs,e,_⟩:=den_lst.mp h2; cases e
  | .tup xs,d2,v,h1,h2=>by
    obtain ⟨a,vs,rfl,s1,l1⟩:=den_tup.mp h1
    cases d2 with
    | non=>cases den_nonE h2
    | bl b=>cases den_blE h2
    | int b=>cases den_intE h2
    | str b=>cases den_strE h2
    | tup ys =>
      obtain ⟨a',ws,e,s2,l2⟩:=den_tup.mp h2
      cases e
      have:=I.tuple_inj (Same.seqT g s1) (Same.seqT g s2)
      subst this
      rw [denL_inj I g xs ys vs l1 l2]
    | lst ys =>
      obtain ⟨a',ws,e,s2,l2⟩:=den_lst.mp h2
      cases e
      obtain ⟨i1,_,p1,_⟩:=I.tuple (Same.seqT g s1)
      obtain ⟨i2,_,p2,_⟩:=I.list (g.seq s2)
      exact absurd rfl (SeqAt.ne_of_list_tuple (s:=s) p2.isList (show s.heap.IsTuple a i1.toArray from p1))
  | .lst xs,d2,v,h1,h2=>by
    obtain ⟨a,vs,rfl,s1,l1⟩:=den_lst.mp h1
    cases d2 with
    | non=>cases den_nonE h2
    | bl b=>cases den_blE h2
    | int b=>cases den_intE h2
    | str b=>cases den_strE h2
    | lst ys =>
      obtain ⟨a',ws,e,s2,l2⟩:=den_lst.mp h2
      cases e
      have:=I.list_inj (g.seq s1) (g.seq s2)
      subst this
      rw [denL_inj I g xs ys vs l1 l2]
    | tup ys =>
      obtain ⟨a',ws,e,s2,l2⟩:=den_tup.mp h2
      cases e
      obtain ⟨i1,_,p1,_⟩:=I.tuple (Same.seqT g s2)
      obtain ⟨i2,_,p2,_⟩:=I.list (g.seq s1)
      exact absurd rfl (SeqAt.ne_of_list_tuple (s:=s) p2.isList (show s.heap.IsTuple a i1.toArray from p1))
theorem denL_inj (I:Inv X pins σ H s) (g:Same G H):(ds es:List D)->(vs:List V)->DenL X.K G ds vs->DenL X.K G es vs->ds=es
  | [],es,vs,h1,h2=>by
    cases denL_nil.mp h1
    cases es with
    | nil=>rfl
    | cons e es=>obtain ⟨_,_,e,_⟩:=denL_cons.mp h2; cases e
  | d::ds,es,vs,h1,h2=>by
    obtain ⟨v,r,rfl,q1,q2⟩:=denL_cons.mp h1
    cases es with
    | nil=>cases denL_nil.mp h2
    | cons e es =>
      obtain ⟨_,_,e',q3,q4⟩:=denL_cons.mp h2
      cases e'
      rw [den_inj I g d e v q1 q3,denL_inj I g ds es r q2 q4]
end
mutual
theorem eqDD_self:(d:D)->eqDD d d=true
  | .non=>by unfold eqDD; rfl
  | .bl b=>by unfold eqDD; simp
  | .int b=>by unfold eqDD; simp
  | .str b=>by unfold eqDD; simp
  | .tup xs=>by unfold eqDD; exact eqDL_self xs
  | .lst xs=>by unfold eqDD; exact eqDL_self xs
theorem eqDL_self:(ds:List D)->eqDL ds ds=true
  | []=>by unfold eqDL; rfl
  | d::ds=>by unfold eqDL; rw [eqDD_self d,eqDL_self ds]; rfl
end
theorem den_same (I:Inv X pins σ H s) (g:Same G H) (d1 d2:D) (v:V) (h1:Den X.K G d1 v) (h2:Den X.K G d2 v):eqDD d1 d2=true:=by
  rw [den_inj I g d1 d2 v h1 h2]
  exact eqDD_self d2
theorem vals_get {xs:List V} {us:List Value} (r:Vals xs us) {j:Nat} (h:j < us.length):∃ x,xs[j]?=some x/\RelV x us[j]:=by
  have hl:=r.length
  obtain ⟨u,hu,ru⟩:=r.get (List.getElem?_eq_getElem (show j < xs.length by omega))
  rw [List.getElem?_eq_getElem h] at hu
  cases hu
  exact ⟨_,List.getElem?_eq_getElem (by omega),ru⟩
theorem den_at {ds:List D} {vs:List V} {j:Nat} {x:V} (l:DenL X.K G ds vs) (h:vs[j]?=some x):ds[j]?=some (ds.getD j .non)/\Den X.K G (ds.getD j .non) x:=by
  have hj:j < ds.length:=by rw [l.length]; exact (List.getElem?_eq_some_iff.mp h).1
  have e:ds[j]?=some (ds.getD j .non):=by rw [List.getD_eq_getElem?_getD,List.getElem?_eq_getElem hj]; rfl
  obtain ⟨v,e1,e2⟩:=l.get e
  rw [h] at e1
  cases e1
  exact ⟨e,e2⟩
theorem eqAt_D (I:Inv X pins σ H s) (g:Same G H):∀ (n:Nat) (d1 d2:D) (v1 v2:V) (u1 u2:Value) (A:Around),depD d1<=n->A.units + n < cLine->Den X.K G d1 v1->Den X.K G d2 v2->RelV v1 u1->RelV v2 u2 ->
    SeqAt.EqAt A s u1 u2 (eqDD d1 d2)/\SeqAt.RcAt A s u1 u2 (eqDD d1 d2):=by
  intro n
  have seqs:∀ (n:Nat),(∀ (d1 d2:D) (v1 v2:V) (u1 u2:Value) (A:Around),depD d1<=n->A.units + n < cLine->Den X.K G d1 v1->Den X.K G d2 v2->RelV v1 u1->RelV v2 u2->SeqAt.EqAt A s u1 u2 (eqDD d1 d2)) ->
      ∀ (xs ys:List D) (vs ws:List V) (us ts:List Value) (A:Around),depDL xs<=n->A.units + (n + 1) < cLine->DenL X.K G xs vs->DenL X.K G ys ws->Vals vs us->Vals ws ts->∀ j (h1:j < us.toArray.size) (h2:j < ts.toArray.size),SeqAt.EqAt A.in1 s us.toArray[j] ts.toArray[j] (eqDD (xs.getD j .non) (ys.getD j .non)) :=
    λ n ih xs ys vs ws us ts A hn hA l1 l2 r1 r2 j h1 h2=>by
      have h1':j < us.length:=by simpa using h1
      have h2':j < ts.length:=by simpa using h2
      obtain ⟨x,e1,q1⟩:=vals_get r1 h1'
      obtain ⟨y,e2,q2⟩:=vals_get r2 h2'
      obtain ⟨e3,q3⟩:=den_at l1 e1
      obtain ⟨e4,q4⟩:=den_at l2 e2
      have:=ih _ _ _ _ _ _ A.in1 (Nat.le_trans (dep_get e3) hn) (by show A.units + 1 + n < cLine; omega) q3 q4 q1 q2
      simpa using this
  have main:∀ (n:Nat),(∀ m,m < n->∀ (d1 d2:D) (v1 v2:V) (u1 u2:Value) (A:Around),depD d1<=m->A.units + m < cLine->Den X.K G d1 v1->Den X.K G d2 v2->RelV v1 u1->RelV v2 u2->SeqAt.EqAt A s u1 u2 (eqDD d1 d2)) ->
      ∀ (d1 d2:D) (v1 v2:V) (u1 u2:Value) (A:Around),depD d1<=n->A.units + n < cLine->Den X.K G d1 v1->Den X.K G d2 v2->RelV v1 u1->RelV v2 u2->SeqAt.EqAt A s u1 u2 (eqDD d1 d2)/\SeqAt.RcAt A s u1 u2 (eqDD d1 d2):=by
    intro n ih d1 d2 v1 v2 u1 u2 A hn hA h1 h2 r1 r2
    have hu:A.units < cLine:=by omega
    cases d1 with
    | non =>
      cases den_nonE h1; obtain rfl:u1=Value.none:=r1
      cases d2 with
      | non=>cases den_nonE h2; obtain rfl:u2=Value.none:=r2; unfold eqDD; exact ⟨SeqAt.EqAt.same _,SeqAt.RcAt.none_none⟩
      | bl=>rename_i b; cases den_blE h2; obtain rfl:u2=Value.bool b:=r2; unfold eqDD; exact ⟨SeqAt.EqAt.none_bool  b,SeqAt.RcAt.none_bool  b⟩
      | int=>rename_i b; cases den_intE h2; obtain ⟨t2,rfl⟩:=r2; unfold eqDD; exact ⟨SeqAt.EqAt.none_int  b t2,SeqAt.RcAt.none_int  b t2⟩
      | str=>rename_i b; cases den_strE h2; obtain ⟨t2,rfl⟩:=r2; unfold eqDD; exact ⟨SeqAt.EqAt.none_str  b t2,SeqAt.RcAt.none_str  b t2⟩
      | tup=>obtain ⟨l,vs,rfl,sq,_⟩:=den_tup.mp h2; obtain rfl:u2=Value.ref l:=r2; obtain ⟨its,_,p,_⟩:=I.tuple (Same.seqT g sq); have p':s.heap.IsTuple l its.toArray:=p; unfold eqDD; exact ⟨SeqAt.EqAt.none_tuple  p' hu,SeqAt.RcAt.none_tuple  p' hu⟩
      | lst=>obtain ⟨l,vs,rfl,sq,_⟩:=den_lst.mp h2; obtain rfl:u2=Value.ref l:=r2; obtain ⟨its,_,p,_⟩:=I.list (g.seq sq); have p':s.heap.IsList l its.toArray:=p.isList; unfold eqDD; exact ⟨SeqAt.EqAt.none_list  p' hu,SeqAt.RcAt.none_list  p' hu⟩
    | bl =>
      rename_i a; cases den_blE h1; obtain rfl:u1=Value.bool a:=r1
      cases d2 with
      | non=>cases den_nonE h2; obtain rfl:u2=Value.none:=r2; unfold eqDD; exact ⟨SeqAt.EqAt.bool_none a ,SeqAt.RcAt.bool_none a ⟩
      | bl=>rename_i b; cases den_blE h2; obtain rfl:u2=Value.bool b:=r2; unfold eqDD; exact ⟨SeqAt.EqAt.bool_bool a b,SeqAt.RcAt.bool_bool a b⟩
      | int=>rename_i b; cases den_intE h2; obtain ⟨t2,rfl⟩:=r2; unfold eqDD; exact ⟨SeqAt.EqAt.bool_int a b t2,SeqAt.RcAt.bool_int a b t2⟩
      | str=>rename_i b; cases den_strE h2; obtain ⟨t2,rfl⟩:=r2; unfold eqDD; exact ⟨SeqAt.EqAt.bool_str a b t2,SeqAt.RcAt.bool_str a b t2⟩
      | tup=>obtain ⟨l,vs,rfl,sq,_⟩:=den_tup.mp h2; obtain rfl:u2=Value.ref l:=r2; obtain ⟨its,_,p,_⟩:=I.tuple (Same.seqT g sq); have p':s.heap.IsTuple l its.toArray:=p; unfold eqDD; exact ⟨SeqAt.EqAt.bool_tuple a p' hu,SeqAt.RcAt.bool_tuple a p' hu⟩
      | lst=>obtain ⟨l,vs,rfl,sq,_⟩:=den_lst.mp h2; obtain rfl:u2=Value.ref l:=r2; obtain ⟨its,_,p,_⟩:=I.list (g.seq sq); have p':s.heap.IsList l its.toArray:=p.isList; unfold eqDD; exact ⟨SeqAt.EqAt.bool_list a p' hu,SeqAt.RcAt.bool_list a p' hu⟩
    | int =>
      rename_i a; cases den_intE h1; obtain ⟨t1,rfl⟩:=r1
      cases d2 with
      | non=>cases den_nonE h2; obtain rfl:u2=Value.none:=r2; unfold eqDD; exact ⟨SeqAt.EqAt.int_none a t1 ,SeqAt.RcAt.int_none a t1 ⟩
      | bl=>rename_i b; cases den_blE h2; obtain rfl:u2=Value.bool b:=r2; unfold eqDD; exact ⟨SeqAt.EqAt.int_bool a t1 b,SeqAt.RcAt.int_bool a t1 b⟩
      | int=>rename_i b; cases den_intE h2; obtain ⟨t2,rfl⟩:=r2; unfold eqDD; exact ⟨SeqAt.EqAt.int_int a t1 b t2,SeqAt.RcAt.int_int a t1 b t2⟩
      | str=>rename_i b; cases den_strE h2; obtain ⟨t2,rfl⟩:=r2; unfold eqDD; exact ⟨SeqAt.EqAt.int_str a t1 b t2,SeqAt.RcAt.int_str a t1 b t2⟩
      | tup=>obtain ⟨l,vs,rfl,sq,_⟩:=den_tup.mp h2; obtain rfl:u2=Value.ref l:=r2; obtain ⟨its,_,p,_⟩:=I.tuple (Same.seqT g sq); have p':s.heap.IsTuple l its.toArray:=p; unfold eqDD; exact ⟨SeqAt.EqAt.int_tuple a t1 p' hu,SeqAt.RcAt.int_tuple a t1 p' hu⟩
      | lst=>obtain ⟨l,vs,rfl,sq,_⟩:=den_lst.mp h2; obtain rfl:u2=Value.ref l:=r2; obtain ⟨its,_,p,_⟩:=I.list (g.seq sq); have p':s.heap.IsList l its.toArray:=p.isList; unfold eqDD; exact ⟨SeqAt.EqAt.int_list a t1 p' hu,SeqAt.RcAt.int_list a t1 p' hu⟩
    | str =>
      rename_i a; cases den_strE h1; obtain ⟨t1,rfl⟩:=r1
      cases d2 with
      | non=>cases den_nonE h2; obtain rfl:u2=Value.none:=r2; unfold eqDD; exact ⟨SeqAt.EqAt.str_none a t1 ,SeqAt.RcAt.str_none a t1 ⟩
      | bl=>rename_i b; cases den_blE h2; obtain rfl:u2=Value.bool b:=r2; unfold eqDD; exact ⟨SeqAt.EqAt.str_bool a t1 b,SeqAt.RcAt.str_bool a t1 b⟩
      | int=>rename_i b; cases den_intE h2; obtain ⟨t2,rfl⟩:=r2; unfold eqDD; exact ⟨SeqAt.EqAt.str_int a t1 b t2,SeqAt.RcAt.str_int a t1 b t2⟩
      | str=>rename_i b; cases den_strE h2; obtain ⟨t2,rfl⟩:=r2; unfold eqDD; exact ⟨SeqAt.EqAt.str_str a t1 b t2,SeqAt.RcAt.str_str a t1 b t2⟩
      | tup=>obtain ⟨l,vs,rfl,sq,_⟩:=den_tup.mp h2; obtain rfl:u2=Value.ref l:=r2; obtain ⟨its,_,p,_⟩:=I.tuple (Same.seqT g sq); have p':s.heap.IsTuple l its.toArray:=p; unfold eqDD; exact ⟨SeqAt.EqAt.str_tuple a t1 p' hu,SeqAt.RcAt.str_tuple a t1 p' hu⟩
      | lst=>obtain ⟨l,vs,rfl,sq,_⟩:=den_lst.mp h2; obtain rfl:u2=Value.ref l:=r2; obtain ⟨its,_,p,_⟩:=I.list (g.seq sq); have p':s.heap.IsList l its.toArray:=p.isList; unfold eqDD; exact ⟨SeqAt.EqAt.str_list a t1 p' hu,SeqAt.RcAt.str_list a t1 p' hu⟩
    | tup xs =>
      obtain ⟨l,vs,rfl,sq,l1⟩:=den_tup.mp h1
      obtain rfl:u1=Value.ref l:=r1
      obtain ⟨its,rv,p,_⟩:=I.tuple (Same.seqT g sq)
      have p':s.heap.IsTuple l its.toArray:=p
      cases d2 with
      | non=>cases den_nonE h2; obtain rfl:u2=Value.none:=r2; unfold eqDD; exact ⟨SeqAt.EqAt.tuple_none  p' hu,SeqAt.RcAt.tuple_none  p' hu⟩
      | bl=>rename_i b; cases den_blE h2; obtain rfl:u2=Value.bool b:=r2; unfold eqDD; exact ⟨SeqAt.EqAt.tuple_bool b p' hu,SeqAt.RcAt.tuple_bool b p' hu⟩
      | int=>rename_i b; cases den_intE h2; obtain ⟨t2,rfl⟩:=r2; unfold eqDD; exact ⟨SeqAt.EqAt.tuple_int b t2 p' hu,SeqAt.RcAt.tuple_int b t2 p' hu⟩
      | str=>rename_i b; cases den_strE h2; obtain ⟨t2,rfl⟩:=r2; unfold eqDD; exact ⟨SeqAt.EqAt.tuple_str b t2 p' hu,SeqAt.RcAt.tuple_str b t2 p' hu⟩
      | tup ys =>
        obtain ⟨m,ws,rfl,sq2,l2⟩:=den_tup.mp h2
        obtain rfl:u2=Value.ref m:=r2
        obtain ⟨jts,rv2,p2,_⟩:=I.tuple (Same.seqT g sq2)
        have p2':s.heap.IsTuple m jts.toArray:=p2
        have hd:depDL xs + 1<=n:=by unfold depD at hn; exact hn
        obtain ⟨m',rfl⟩:∃ m',n=m' + 1:=⟨n - 1,by omega⟩
        have he:=seqs m' (λ d1 d2 v1 v2 u1 u2 A a b c d e f=>ih m' (Nat.lt_succ_self _) d1 d2 v1 v2 u1 u2 A a b c d e f) xs ys vs ws its jts A (by omega) hA l1 l2 rv rv2
        have z1:its.toArray.size=xs.length:=by rw [List.size_toArray,<- rv.length,l1.length]
        have z2:jts.toArray.size=ys.length:=by rw [List.size_toArray,<- rv2.length,l2.length]
        have rc:=SeqAt.RcAt.tuples p' p2' hu he
        rw [z1,z2,<- eqDL_at] at rc
        have hh:eqDD (.tup xs) (.tup ys)=eqDL xs ys:=by
          conv=>lhs; unfold eqDD
        refine ⟨?_,by rw [hh]; exact rc⟩
        by_cases q:l=m
        · subst q
          rw [den_same I g _ _ _ h1 h2]
          exact SeqAt.EqAt.same _
        · rw [hh]
          exact SeqAt.EqAt.of_refs q rc
      | lst ys =>
        obtain ⟨m,ws,rfl,sq2,l2⟩:=den_lst.mp h2
        obtain rfl:u2=Value.ref m:=r2
        obtain ⟨jts,rv2,p2,_⟩:=I.list (g.seq sq2)
        have p2':s.heap.IsList m jts.toArray:=p2.isList
        unfold eqDD
        exact ⟨SeqAt.EqAt.tuple_list p' p2' hu,SeqAt.RcAt.tuple_list p' p2' hu⟩
    | lst xs =>
      obtain ⟨l,vs,rfl,sq,l1⟩:=den_lst.mp h1
      obtain rfl:u1=Value.ref l:=r1
      obtain ⟨its,rv,p,_⟩:=I.list (g.seq sq)
      have p':s.heap.IsList l its.toArray:=p.isList
      cases d2 with
      | non=>cases den_nonE h2; obtain rfl:u2=Value.none:=r2; unfold eqDD; exact ⟨SeqAt.EqAt.list_none  p' hu,SeqAt.RcAt.list_none  p' hu⟩
      | bl=>rename_i b; cases den_blE h2; obtain rfl:u2=Value.bool b:=r2; unfold eqDD; exact ⟨SeqAt.EqAt.list_bool b p' hu,SeqAt.RcAt.list_bool b p' hu⟩
      | int=>rename_i b; cases den_intE h2; obtain ⟨t2,rfl⟩:=r2; unfold eqDD; exact ⟨SeqAt.EqAt.list_int b t2 p' hu,SeqAt.RcAt.list_int b t2 p' hu⟩
      | str=>rename_i b; cases den_strE h2; obtain ⟨t2,rfl⟩:=r2; unfold eqDD; exact ⟨SeqAt.EqAt.list_str b t2 p' hu,SeqAt.RcAt.list_str b t2 p' hu⟩
      | tup ys =>
        obtain ⟨m,ws,rfl,sq2,l2⟩:=den_tup.mp h2
        obtain rfl:u2=Value.ref m:=r2
        obtain ⟨jts,rv2,p2,_⟩:=I.tuple (Same.seqT g sq2)
        have p2':s.heap.IsTuple m jts.toArray:=p2
        unfold eqDD
        exact ⟨SeqAt.EqAt.list_tuple p' p2' hu,SeqAt.RcAt.list_tuple p' p2' hu⟩
      | lst ys =>
        obtain ⟨m,ws,rfl,sq2,l2⟩:=den_lst.mp h2
        obtain rfl:u2=Value.ref m:=r2
        obtain ⟨jts,rv2,p2,_⟩:=I.list (g.seq sq2)
        have p2':s.heap.IsList m jts.toArray:=p2.isList
        have hd:depDL xs + 1<=n:=by unfold depD at hn; exact hn
        obtain ⟨m',rfl⟩:∃ m',n=m' + 1:=⟨n - 1,by omega⟩
        have he:=seqs m' (λ d1 d2 v1 v2 u1 u2 A a b c d e f=>ih m' (Nat.lt_succ_self _) d1 d2 v1 v2 u1 u2 A a b c d e f) xs ys vs ws its jts A (by omega) hA l1 l2 rv rv2
        have z1:its.toArray.size=xs.length:=by rw [List.size_toArray,<- rv.length,l1.length]
        have z2:jts.toArray.size=ys.length:=by rw [List.size_toArray,<- rv2.length,l2.length]
        have rc:SeqAt.RcAt A s (.ref l) (.ref m) (eqDL xs ys):=by
          by_cases hz:xs.length=ys.length
          · have rc:=SeqAt.RcAt.lists p' p2' (by rw [z1,z2]; exact hz) hu he
            rw [eqDL_at,<- hz,Nat.min_self,beq_self_eq_true,Bool.and_true,<- z1]
            exact rc
          · have rc:=SeqAt.RcAt.lists_lengths p' p2' (by rw [z1,z2]; simpa using hz) hu
            rw [eqDL_at,beq_eq_false_iff_ne.mpr hz,Bool.and_false]
            exact rc
        have hh:eqDD (.lst xs) (.lst ys)=eqDL xs ys:=by
          conv=>lhs; unfold eqDD
        refine ⟨?_,by rw [hh]; exact rc⟩
        by_cases q:l=m
        · subst q
          rw [den_same I g _ _ _ h1 h2]
          exact SeqAt.EqAt.same _
        · rw [hh]
          exact SeqAt.EqAt.of_refs q rc
  refine main n ?_
  intro m
  induction m using Nat.strongRecOn with
  | _ m ihm=>exact λ _ d1 d2 v1 v2 u1 u2 A a b c d e f=>(main m (λ k hk d1 d2 v1 v2 u1 u2 A a b c d e f=>ihm k hk (by omega) d1 d2 v1 v2 u1 u2 A a b c d e f) d1 d2 v1 v2 u1 u2 A a b c d e f).1
end
section
variable {X:Cx}
noncomputable def isS:D->Bool
  | .str _=>true
  | _=>false
noncomputable def eqD (x y:D):Option D:=if depD x<=100∨isS y=true then some (.bl (eqDD x y)) else none
noncomputable def neD (x y:D):Option D:=if depD x<=100 then some (.bl (!eqDD x y)) else none
theorem opd_eqD (hu:X.A.units + 150 < cLine):OpD X (compareOp .Eq) eqD:=by
  refine ⟨λ x y H Q=>∃ G d1 d2,Same G H/\Den X.K G d1 x/\Den X.K G d2 y/\(depD d1<=100∨isS d2=true)/\Q (.bl (eqDD d1 d2)) H,?_,?_⟩
  · rintro pins s σ H x y v u Q I rx ry ⟨G,d1,d2,g,h1,h2,hd,q⟩
    have main:depD d1<=100->wpAny (model X.prog X.w) X.A (compareOp .Eq v u) (EP X pins σ Q) X.xe s:=λ hd=>(eqAt_D I g 100 d1 d2 x y v u X.A hd (by omega) h1 h2 rx ry).2 X.prog X.w X.xe _ ⟨.bl _,H,I,rfl,q⟩
    rcases hd with hd | hd
    · exact main hd
    · cases d2 with
      | str b =>
        cases den_strE h2
        obtain ⟨t2,rfl⟩:=ry
        cases d1 with
        | tup xs =>
          obtain ⟨l,vs,rfl,sq,l1⟩:=den_tup.mp h1
          obtain rfl:v=Value.ref l:=rx
          obtain ⟨its,rv,p,_⟩:=I.tuple (Same.seqT g sq)
          have p':s.heap.IsTuple l its.toArray:=p
          have e:eqDD (.tup xs) (.str b)=false:=by unfold eqDD; rfl
          rw [e] at q
          exact (SeqAt.RcAt.tuple_str b t2 p' (show X.A.units < cLine by omega)) X.prog X.w X.xe _ ⟨.bl _,H,I,rfl,q⟩
        | lst xs =>
          obtain ⟨l,vs,rfl,sq,l1⟩:=den_lst.mp h1
          obtain rfl:v=Value.ref l:=rx
          obtain ⟨its,rv,p,_⟩:=I.list (g.seq sq)
          have p':s.heap.IsList l its.toArray:=p.isList
          have e:eqDD (.lst xs) (.str b)=false:=by unfold eqDD; rfl
          rw [e] at q
          exact (SeqAt.RcAt.list_str b t2 p' (show X.A.units < cLine by omega)) X.prog X.w X.xe _ ⟨.bl _,H,I,rfl,q⟩
        | non=>exact main (by unfold depD; exact Nat.zero_le _)
        | bl _=>exact main (by unfold depD; exact Nat.zero_le _)
        | int _=>exact main (by unfold depD; exact Nat.zero_le _)
        | str _=>exact main (by unfold depD; exact Nat.zero_le _)
      | non=>cases hd
      | bl _=>cases hd
      | int _=>cases hd
      | tup _=>cases hd
      | lst _=>cases hd
  · intro H G x y d1 d2 d g h1 h2 e Q q
    unfold eqD at e
    split at e
    · rename_i hd
      cases e
      exact ⟨G,d1,d2,g,h1,h2,hd,q _ H G (.refl g) den_bl⟩
    · cases e
end
section
variable {X:Cx} {pins:List (Addr×Obj)} {σ:L2.St} {H G:Hp} {s:Shared}
theorem neAt_D (I:Inv X pins σ H s) (g:Same G H) (d1 d2:D) (v1 v2:V) (u1 u2:Value) (A:Around) (hn:depD d1<=100) (hA:A.units + 100 < cLine) (h1:Den X.K G d1 v1) (h2:Den X.K G d2 v2) (r1:RelV v1 u1) (r2:RelV v2 u2) :
    SeqAt.RcNeAt A s u1 u2 (!eqDD d1 d2):=by
  have hu:A.units < cLine:=by omega
  have seqs:∀ (xs ys:List D) (vs ws:List V) (us ts:List Value),depDL xs<=99->DenL X.K G xs vs->DenL X.K G ys ws->Vals vs us->Vals ws ts->∀ j (h1:j < us.toArray.size) (h2:j < ts.toArray.size),SeqAt.EqAt A.in1 s us.toArray[j] ts.toArray[j] (eqDD (xs.getD j .non) (ys.getD j .non)) :=
    λ xs ys vs ws us ts hn l1 l2 r1 r2 j h1 h2=>by
      have h1':j < us.length:=by simpa using h1
      have h2':j < ts.length:=by simpa using h2
      obtain ⟨x,e1,q1⟩:=vals_get r1 h1'
      obtain ⟨y,e2,q2⟩:=vals_get r2 h2'
      obtain ⟨e3,q3⟩:=den_at l1 e1
      obtain ⟨e4,q4⟩:=den_at l2 e2
      have:=(eqAt_D I g 99 _ _ _ _ _ _ A.in1 (Nat.le_trans (dep_get e3) hn) (by show A.units + 1 + 99 < cLine; omega) q3 q4 q1 q2).1
      simpa using this
  cases d1 with
  | non =>
    cases den_nonE h1; obtain rfl:u1=Value.none:=r1
    cases d2 with
    | non=>cases den_nonE h2; obtain rfl:u2=Value.none:=r2; unfold eqDD; exact SeqAt.RcNeAt.none_none  
    | bl=>rename_i b; cases den_blE h2; obtain rfl:u2=Value.bool b:=r2; unfold eqDD; exact SeqAt.RcNeAt.none_bool  b
    | int=>rename_i b; cases den_intE h2; obtain ⟨t2,rfl⟩:=r2; unfold eqDD; exact SeqAt.RcNeAt.none_int  b t2
    | str=>rename_i b; cases den_strE h2; obtain ⟨t2,rfl⟩:=r2; unfold eqDD; exact SeqAt.RcNeAt.none_str  b t2
    | tup=>obtain ⟨l,vs,rfl,sq,_⟩:=den_tup.mp h2; obtain rfl:u2=Value.ref l:=r2; obtain ⟨its,_,p,_⟩:=I.tuple (Same.seqT g sq); have p':s.heap.IsTuple l its.toArray:=p; unfold eqDD; exact SeqAt.RcNeAt.none_tuple  p' hu
    | lst=>obtain ⟨l,vs,rfl,sq,_⟩:=den_lst.mp h2; obtain rfl:u2=Value.ref l:=r2; obtain ⟨its,_,p,_⟩:=I.list (g.seq sq); have p':s.heap.IsList l its.toArray:=p.isList; unfold eqDD; exact SeqAt.RcNeAt.none_list  p' hu
  | bl =>
    rename_i a; cases den_blE h1; obtain rfl:u1=Value.bool a:=r1
    cases d2 with
    | non=>cases den_nonE h2; obtain rfl:u2=Value.none:=r2; unfold eqDD; exact SeqAt.RcNeAt.bool_none a 
    | bl=>rename_i b; cases den_blE h2; obtain rfl:u2=Value.bool b:=r2; unfold eqDD; exact SeqAt.RcNeAt.bool_bool a b
    | int=>rename_i b; cases den_intE h2; obtain ⟨t2,rfl⟩:=r2; unfold eqDD; exact SeqAt.RcNeAt.bool_int a b t2
    | str=>rename_i b; cases den_strE h2; obtain ⟨t2,rfl⟩:=r2; unfold eqDD; exact SeqAt.RcNeAt.bool_str a b t2
    | tup=>obtain ⟨l,vs,rfl,sq,_⟩:=den_tup.mp h2; obtain rfl:u2=Value.ref l:=r2; obtain ⟨its,_,p,_⟩:=I.tuple (Same.seqT g sq); have p':s.heap.IsTuple l its.toArray:=p; unfold eqDD; exact SeqAt.RcNeAt.bool_tuple a p' hu
    | lst=>obtain ⟨l,vs,rfl,sq,_⟩:=den_lst.mp h2; obtain rfl:u2=Value.ref l:=r2; obtain ⟨its,_,p,_⟩:=I.list (g.seq sq); have p':s.heap.IsList l its.toArray:=p.isList; unfold eqDD; exact SeqAt.RcNeAt.bool_list a p' hu
  | int =>
    rename_i a; cases den_intE h1; obtain ⟨t1,rfl⟩:=r1
    cases d2 with
    | non=>cases den_nonE h2; obtain rfl:u2=Value.none:=r2; unfold eqDD; exact SeqAt.RcNeAt.int_none a t1 
    | bl=>rename_i b; cases den_blE h2; obtain rfl:u2=Value.bool b:=r2; unfold eqDD; exact SeqAt.RcNeAt.int_bool a t1 b
    | int=>rename_i b; cases den_intE h2; obtain ⟨t2,rfl⟩:=r2; unfold eqDD; exact SeqAt.RcNeAt.int_int a t1 b t2
    | str=>rename_i b; cases den_strE h2; obtain ⟨t2,rfl⟩:=r2; unfold eqDD; exact SeqAt.RcNeAt.int_str a t1 b t2
    | tup=>obtain ⟨l,vs,rfl,sq,_⟩:=den_tup.mp h2; obtain rfl:u2=Value.ref l:=r2; obtain ⟨its,_,p,_⟩:=I.tuple (Same.seqT g sq); have p':s.heap.IsTuple l its.toArray:=p; unfold eqDD; exact SeqAt.RcNeAt.int_tuple a t1 p' hu
    | lst=>obtain ⟨l,vs,rfl,sq,_⟩:=den_lst.mp h2; obtain rfl:u2=Value.ref l:=r2; obtain ⟨its,_,p,_⟩:=I.list (g.seq sq); have p':s.heap.IsList l its.toArray:=p.isList; unfold eqDD; exact SeqAt.RcNeAt.int_list a t1 p' hu
  | str =>
    rename_i a; cases den_strE h1; obtain ⟨t1,rfl⟩:=r1
    cases d2 with
    | non=>cases den_nonE h2; obtain rfl:u2=Value.none:=r2; unfold eqDD; exact SeqAt.RcNeAt.str_none a t1 
    | bl=>rename_i b; cases den_blE h2; obtain rfl:u2=Value.bool b:=r2; unfold eqDD; exact SeqAt.RcNeAt.str_bool a t1 b
    | int=>rename_i b; cases den_intE h2; obtain ⟨t2,rfl⟩:=r2; unfold eqDD; exact SeqAt.RcNeAt.str_int a t1 b t2
    | str=>rename_i b; cases den_strE h2; obtain ⟨t2,rfl⟩:=r2; unfold eqDD; exact SeqAt.RcNeAt.str_str a t1 b t2
    | tup=>obtain ⟨l,vs,rfl,sq,_⟩:=den_tup.mp h2; obtain rfl:u2=Value.ref l:=r2; obtain ⟨its,_,p,_⟩:=I.tuple (Same.seqT g sq); have p':s.heap.IsTuple l its.toArray:=p; unfold eqDD; exact SeqAt.RcNeAt.str_tuple a t1 p' hu
    | lst=>obtain ⟨l,vs,rfl,sq,_⟩:=den_lst.mp h2; obtain rfl:u2=Value.ref l:=r2; obtain ⟨its,_,p,_⟩:=I.list (g.seq sq); have p':s.heap.IsList l its.toArray:=p.isList; unfold eqDD; exact SeqAt.RcNeAt.str_list a t1 p' hu
  | tup xs =>
    obtain ⟨l,vs,rfl,sq,l1⟩:=den_tup.mp h1
    obtain rfl:u1=Value.ref l:=r1
    obtain ⟨its,rv,p,_⟩:=I.tuple (Same.seqT g sq)
    have p':s.heap.IsTuple l its.toArray:=p
    cases d2 with
    | non=>cases den_nonE h2; obtain rfl:u2=Value.none:=r2; unfold eqDD; exact SeqAt.RcNeAt.tuple_none  p' hu
    | bl=>rename_i b; cases den_blE h2; obtain rfl:u2=Value.bool b:=r2; unfold eqDD; exact SeqAt.RcNeAt.tuple_bool b p' hu
    | int=>rename_i b; cases den_intE h2; obtain ⟨t2,rfl⟩:=r2; unfold eqDD; exact SeqAt.RcNeAt.tuple_int b t2 p' hu
    | str=>rename_i b; cases den_strE h2; obtain ⟨t2,rfl⟩:=r2; unfold eqDD; exact SeqAt.RcNeAt.tuple_str b t2 p' hu
    | tup ys =>
      obtain ⟨m,ws,rfl,sq2,l2⟩:=den_tup.mp h2
      obtain rfl:u2=Value.ref m:=r2
      obtain ⟨jts,rv2,p2,_⟩:=I.tuple (Same.seqT g sq2)
      have p2':s.heap.IsTuple m jts.toArray:=p2
      have hd:depDL xs + 1<=100:=by unfold depD at hn; exact hn
      have he:=seqs xs ys vs ws its jts (by omega) l1 l2 rv rv2
      have z1:its.toArray.size=xs.length:=by rw [List.size_toArray,<- rv.length,l1.length]
      have z2:jts.toArray.size=ys.length:=by rw [List.size_toArray,<- rv2.length,l2.length]
      have hh:eqDD (.tup xs) (.tup ys)=eqDL xs ys:=by
        conv=>lhs; unfold eqDD
      rw [hh]
      have rc:=SeqAt.RcNeAt.tuples p' p2' hu he
      rw [z1,z2,<- eqDL_at] at rc
      exact rc
    | lst ys =>
      obtain ⟨m,ws,rfl,sq2,l2⟩:=den_lst.mp h2
      obtain rfl:u2=Value.ref m:=r2
      obtain ⟨jts,rv2,p2,_⟩:=I.list (g.seq sq2)
      have p2':s.heap.IsList m jts.toArray:=p2.isList
      unfold eqDD
      exact SeqAt.RcNeAt.tuple_list p' p2' hu
  | lst xs =>
    obtain ⟨l,vs,rfl,sq,l1⟩:=den_lst.mp h1
    obtain rfl:u1=Value.ref l:=r1
    obtain ⟨its,rv,p,_⟩:=I.list (g.seq sq)
    have p':s.heap.IsList l its.toArray:=p.isList
    cases d2 with
    | non=>cases den_nonE h2; obtain rfl:u2=Value.none:=r2; unfold eqDD; exact SeqAt.RcNeAt.list_none  p' hu
    | bl=>rename_i b; cases den_blE h2; obtain rfl:u2=Value.bool b:=r2; unfold eqDD; exact SeqAt.RcNeAt.list_bool b p' hu
    | int=>rename_i b; cases den_intE h2; obtain ⟨t2,rfl⟩:=r2; unfold eqDD; exact SeqAt.RcNeAt.list_int b t2 p' hu
    | str=>rename_i b; cases den_strE h2; obtain ⟨t2,rfl⟩:=r2; unfold eqDD; exact SeqAt.RcNeAt.list_str b t2 p' hu
    | tup ys =>
      obtain ⟨m,ws,rfl,sq2,l2⟩:=den_tup.mp h2
      obtain rfl:u2=Value.ref m:=r2
      obtain ⟨jts,rv2,p2,_⟩:=I.tuple (Same.seqT g sq2)
      have p2':s.heap.IsTuple m jts.toArray:=p2
      unfold eqDD
      exact SeqAt.RcNeAt.list_tuple p' p2' hu
    | lst ys =>
      obtain ⟨m,ws,rfl,sq2,l2⟩:=den_lst.mp h2
      obtain rfl:u2=Value.ref m:=r2
      obtain ⟨jts,rv2,p2,_⟩:=I.list (g.seq sq2)
      have p2':s.heap.IsList m jts.toArray:=p2.isList
      have hd:depDL xs + 1<=100:=by unfold depD at hn; exact hn
      have he:=seqs xs ys vs ws its jts (by omega) l1 l2 rv rv2
      have z1:its.toArray.size=xs.length:=by rw [List.size_toArray,<- rv.length,l1.length]
      have z2:jts.toArray.size=ys.length:=by rw [List.size_toArray,<- rv2.length,l2.length]
      have hh:eqDD (.lst xs) (.lst ys)=eqDL xs ys:=by
        conv=>lhs; unfold eqDD
      rw [hh]
      by_cases hz:xs.length=ys.length
      · have rc:=SeqAt.RcNeAt.lists p' p2' (by rw [z1,z2]; exact hz) hu he
        rw [eqDL_at,<- hz,Nat.min_self,beq_self_eq_true,Bool.and_true,<- z1]
        exact rc
      · have rc:=SeqAt.RcNeAt.lists_lengths p' p2' (by rw [z1,z2]; simpa using hz) hu
        rw [eqDL_at,beq_eq_false_iff_ne.mpr hz,Bool.and_false]
        exact rc
end
section
variable {X:Cx}
theorem opd_neD (hu:X.A.units + 150 < cLine):OpD X (compareOp .NotEq) neD:=⟨λ x y H Q=>∃ G d1 d2,Same G H/\Den X.K G d1 x/\Den X.K G d2 y/\depD d1<=100/\Q (.bl (!eqDD d1 d2)) H,by
    rintro pins s σ H x y v u Q I rx ry ⟨G,d1,d2,g,h1,h2,hd,q⟩
    exact neAt_D I g d1 d2 x y v u X.A hd (by omega) h1 h2 rx ry X.prog X.w X.xe _ ⟨.bl _,H,I,rfl,q⟩,λ H G x y d1 d2 d g h1 h2 e Q q=>by
    unfold neD at e
    split at e
    · rename_i hd
      cases e
      exact ⟨G,d1,d2,g,h1,h2,hd,q _ H G (.refl g) den_bl⟩
    · cases e⟩
noncomputable def memD (x y:D):Option D:=match y with
  | .tup ys=>if depDL ys<=99 then some (.bl (ys.any λ z=>eqDD z x)) else none
  | .lst ys=>if depDL ys<=99 then some (.bl (ys.any λ z=>eqDD z x)) else none
  | _=>none
theorem rel_abs {v w:V} {u:Value} (a:RelV v u) (b:RelV w u):v=w:=a.inj b
theorem mem_at {pins:List (Addr×Obj)} {σ:L2.St} {H G:Hp} {s:Shared} (I:Inv X pins σ H s) (g:Same G H) {x:D} {v:V} {u:Value} (h1:Den X.K G x v) (r1:RelV v u) (hA:X.A.units + 150 < cLine)
    {ys:List D} {vs:List V} {its:List Value} (hd:depDL ys<=99) (l:DenL X.K G ys vs) (r:Vals vs its):∃ e:Value->Bool,(∀ z,z∈its->SeqAt.EqAt X.A.in1 s z u (e z))/\its.any e=ys.any λ z=>eqDD z x:=by
  classical
  refine ⟨λ z=>decide (∃ d w,Den X.K G d w/\RelV w z/\eqDD d x=true),?_,?_⟩
  · intro z hz
    obtain ⟨j,hj,rfl⟩:=List.getElem_of_mem hz
    obtain ⟨y,e1,q1⟩:=vals_get r hj
    obtain ⟨e3,q3⟩:=den_at l e1
    have:=(eqAt_D I g 99 _ x _ _ _ u X.A.in1 (Nat.le_trans (dep_get e3) hd) (by show X.A.units + 1 + 99 < cLine; omega) q3 h1 q1 r1).1
    have e:decide (∃ d w,Den X.K G d w/\RelV w its[j]/\eqDD d x=true)=eqDD (ys.getD j .non) x:=by
      rw [Bool.eq_iff_iff,decide_eq_true_eq]
      constructor
      · rintro ⟨d,w,a,b,c⟩
        rw [rel_abs b q1] at a
        rw [<- den_inj I g d _ _ a q3]
        exact c
      · exact λ h=>⟨_,_,q3,q1,h⟩
    show SeqAt.EqAt X.A.in1 s its[j] u (decide _)
    rw [e]
    exact this
  · rw [Bool.eq_iff_iff,List.any_eq_true,List.any_eq_true]
    constructor
    · rintro ⟨z,hz,hq⟩
      obtain ⟨d,w,a,b,c⟩:=of_decide_eq_true hq
      obtain ⟨j,hj,rfl⟩:=List.getElem_of_mem hz
      obtain ⟨y,e1,q1⟩:=vals_get r hj
      obtain ⟨e3,q3⟩:=den_at l e1
      rw [rel_abs b q1] at a
      rw [den_inj I g d _ _ a q3] at c
      exact ⟨_,List.mem_of_getElem? e3,c⟩
    · rintro ⟨d,hm,c⟩
      obtain ⟨j,hj,rfl⟩:=List.getElem_of_mem hm
      obtain ⟨w,e1,q1⟩:=l.get (List.getElem?_eq_getElem hj)
      obtain ⟨z,e2,q2⟩:=r.get e1
      exact ⟨z,List.mem_of_getElem? e2,decide_eq_true ⟨_,_,q1,q2,c⟩⟩
theorem opd_mem (hu:X.A.units + 150 < cLine):OpD X (compareOp .In) memD:=by
  refine ⟨λ x y H Q=>∃ G d1 d2 b,Same G H/\Den X.K G d1 x/\Den X.K G d2 y/\memD d1 d2=some (.bl b)/\Q (.bl b) H,?_,?_⟩
  · rintro pins s σ H x y v u Q I rx ry ⟨G,d1,d2,b,g,h1,h2,hm,q⟩
    unfold memD at hm
    split at hm
    · split at hm
      · rename_i hd
        cases hm
        obtain ⟨a,vs,rfl,sq,l⟩:=den_tup.mp h2
        obtain rfl:u=Value.ref a:=ry
        obtain ⟨its,rv,p,_⟩:=I.tuple (Same.seqT g sq)
        obtain ⟨e,he,ha⟩:=mem_at I g h1 rx hu hd l rv
        refine SeqAt.in_tupleAt e (show s.heap.IsTuple a its.toArray from p) (λ z hz=>he z (by simpa using hz)) ⟨.bl _,H,I,rfl,?_⟩
        rw [show its.toArray.any e=its.any e by simp,ha]
        exact q
      · cases hm
    · split at hm
      · rename_i hd
        cases hm
        obtain ⟨a,vs,rfl,sq,l⟩:=den_lst.mp h2
        obtain rfl:u=Value.ref a:=ry
        obtain ⟨its,rv,p,_⟩:=I.list (g.seq sq)
        obtain ⟨e,he,ha⟩:=mem_at I g h1 rx hu hd l rv
        refine SeqAt.in_listAt e p.isList (λ z hz=>he z (by simpa using hz)) ⟨.bl _,H,I,rfl,?_⟩
        rw [show its.toArray.any e=its.any e by simp,ha]
        exact q
      · cases hm
    · cases hm
  · intro H G x y d1 d2 d g h1 h2 e Q q
    have hb:∃ b,d=.bl b:=by
      unfold memD at e
      split at e
      · split at e
        · cases e; exact ⟨_,rfl⟩
        · cases e
      · split at e
        · cases e; exact ⟨_,rfl⟩
        · cases e
      · cases e
    obtain ⟨b,rfl⟩:=hb
    exact ⟨G,d1,d2,b,g,h1,h2,e,q _ H G (.refl g) den_bl⟩
end
end Wy


namespace Wy
open PySem PySem.Spec PyProof.Rows L2
theorem room_u {k:Nat} {A:Around} (r:Room k A):A.units + 150 < cLine:=by have:=r.un; omega
noncomputable def orD (F F':D->D->Option D):D->D->Option D:=λ x y=>match F x y with
  | some d=>some d
  | none=>F' x y
section
variable {X:Cx}
theorem OpD.or {g:Value->Value->Sem Value} {F F':D->D->Option D} (h:OpD X g F) (h':OpD X g F'):OpD X g (orD F F'):=by
  obtain ⟨r,p,q⟩:=h
  obtain ⟨r',p',q'⟩:=h'
  refine ⟨_,p.or p',λ H G x y d1 d2 d g h1 h2 e Q w=>?_⟩
  unfold orD at e
  split at e
  · rename_i d' e'
    cases e
    exact .inl (q H G x y d1 d2 _ g h1 h2 e' Q w)
  · exact .inr (q' H G x y d1 d2 d g h1 h2 e Q w)
noncomputable def str2 (g:Str->Str->Option D):D->D->Option D
  | .str x,.str y=>g x y
  | _,_=>none
theorem str2_some {g:Str->Str->Option D} {d1 d2 d:D} (h:str2 g d1 d2=some d):∃ i j,d1=.str i/\d2=.str j/\g i j=some d:=by
  cases d1 <;> cases d2 <;> first | cases h | exact ⟨_,_,rfl,rfl,h⟩
noncomputable def addS (x y:Str):Option D:=if x.length + y.length<=1000000 then some (.str (x++y)) else none
theorem opd_addS:OpD X (binaryOp .Add) (str2 addS):=⟨_,op_add_str,λ H G x y d1 d2 d g h1 h2 e Q q=>by
  obtain ⟨i,j,rfl,rfl,e'⟩:=str2_some e
  clear e
  unfold addS at e'
  split at e'
  · rename_i hz
    cases e'
    exact ⟨i,j,den_strE h1,den_strE h2,Nat.le_trans hz (by decide),q _ H G (.refl g) den_str⟩
  · cases e'⟩
noncomputable def addD:D->D->Option D:=orD (int2 λ i j=>some (.int (i + j))) (orD (str2 addS) catD)
theorem opd_addD:OpD X (binaryOp .Add) addD:=opd_add.or (opd_addS.or opd_cat)
noncomputable def memA:D->D->Option D:=orD memD (str2 λ x y=>some (.bl (inStr x y)))
theorem opd_inT:OpD X (compareOp .In) (str2 λ x y=>some (.bl (inStr x y))):=⟨_,op_in_str,λ H G x y d1 d2 d g h1 h2 e Q q=>by
  obtain ⟨i,j,rfl,rfl,e⟩:=str2_some e
  cases e
  exact ⟨i,j,den_strE h1,den_strE h2,q _ H G (.refl g) den_bl⟩⟩
theorem opd_memA (hu:X.A.units + 150 < cLine):OpD X (compareOp .In) memA:=(opd_mem hu).or opd_inT
end
end Wy


namespace Wy
open PySem PySem.Spec PyProof.Rows L2
section
variable {X:Cx}
theorem call_any:CallR X (.builtin "any") (λ xs H Q=>X.calm=true/\∃ (p:Addr) (bs:List Bool),xs=[.ref p]/\SqL X.K H p (bs.map V.bl)/\Q (.bl (bs.any id)) H):=by
  rintro pins s σ H xs us Q I rv ⟨hc,p,bs,rfl,hs,q⟩
  obtain ⟨u,rfl,ru⟩:=rv.one
  obtain rfl:u=Value.ref p:=ru
  obtain ⟨its,vv,⟨o,n,h1,h2,h3,h4⟩,hl⟩:=I.list hs
  have hb:=bools_of vv
  have hL:s.heap.IsList p its.toArray:=⟨o,h1,h2,n,h4⟩
  have hlt:p < s.heap.objs.size:=Heap.lt_size h1
  refine call_any_walk (wpAny_pyIter_list hL ?_)
  refine ⟨s.heap.objs.size,[s.heap.objs.size,p],[s.heap.objs.size],its.toArray.size,_,_,λ i=>(bs[i]?).getD false,rfl,Walks.list (A:=X.A.in1) (I.ok.hd hc) _ p (Nat.ne_of_lt hlt) its.toArray,
    ⟨⟨_,Heap.get?_push_size _ rfl,rfl,rfl⟩,hL.push _⟩,λ i v s' Q' E' hP hQ=>?_,λ h' tk hk=>?_⟩
  · obtain ⟨b,e,rfl⟩:=hb.get i v (by simpa using hP)
    simp only [e,Option.getD_some] at hQ
    exact wpAny_truthy_bool hQ
  · have e:((List.range its.toArray.size).any λ i=>(bs[i]?).getD false)=bs.any id:=by
      rw [List.size_toArray,hb.length,Bool.eq_iff_iff,List.any_eq_true,List.any_eq_true]
      constructor
      · rintro ⟨i,hi,h⟩
        rw [List.mem_range] at hi
        rw [List.getElem?_eq_getElem hi] at h
        exact ⟨_,List.getElem_mem hi,h⟩
      · rintro ⟨b,hb,h⟩
        obtain ⟨i,hi,rfl⟩:=List.getElem_of_mem hb
        exact ⟨i,List.mem_range.mpr hi,by rw [List.getElem?_eq_getElem hi]; exact h⟩
    rw [e]
    exact ⟨.bl _,H,I.kept (LSm.kept_iter hk),rfl,q⟩
noncomputable def anyS:Bool×List D->Option D:=λ p=>match p with
  | (false,ds)=>(asBs ds).bind λ bs=>some (.bl (bs.any id))
  | _=>none
theorem calls_any (hc:X.calm=true):CallS X (.builtin "any") anyS:=⟨_,call_any,λ H G b ds d a vs g s l e Q q=>by
  cases b with
  | true=>cases e
  | false =>
    obtain ⟨bs,e1,e2⟩:=Option.bind_eq_some_iff.mp e
    cases e2
    have:=asBs_den l e1
    subst this
    exact ⟨hc,a,bs,rfl,s,q _ H G (.refl g) den_bl⟩⟩
end
section
open PySem.SeqAt
open PySem.AutoSeq1 (wpAny_loadPart')
open PySem.MeetsSeq PySem.MeetsSeq2 PySem.MeetsSeq3 PySem.AutoSeq1
theorem list_extend_lst (l:Addr) (items:Array Value) (n:Nat) (b:Addr) (items2:Array Value) (n2:Nat) (dd:Option Addr) (sl:Array (Option Value)) (hs0:¬(!items.isEmpty&&Builtin.List.listTooLong (items.size + items2.size))=true) (hs1:items.size<=sizeLine) (hs2:items.size + items2.size<=sizeLine + 1) :
    Meets (Builtin.«list.extend» ⟨[.ref l,.ref b],[]⟩) (λ _ R s=>s.heap.get? l=some { cls:=.type "list",dict:=none,data:=.seq items n,slots:=#[] }/\s.heap.get? b=some { cls:=.type "list",dict:=dd,data:=.seq items2 n2,slots:=sl }/\R (.ok (.ret Value.none)) { s with heap:=s.heap.update l (Obj.mapSeq λ x=>x++items2),toks:=s.toks }) :=
  .of_wp λ prog w A R s h=>by
    obtain ⟨hp,g,d,tk,os⟩:=s; obtain ⟨hl,hb,h⟩:=h; have f1:=idx_int; have f2:=AutoSeq1.sub_tuple_tuple; have f3:=AutoSeq1.sub_list_list; have f4:=AutoSeq1.sub_tuple_list; have f5:=AutoSeq1.sub_list_tuple;
    have hz':(items++items2).size<=sizeLine + 1:=by rw [Array.size_append]; exact hs2
    wp_walk using (wpAny_updateSeq hl rfl (hz:=hs1) (_hz':=hz')),wpAny_loadPart' hl,wpAny_loadPart' hb; exact ⟨_,rfl,h⟩
end
section
variable {X:Cx}
noncomputable def rExtL (K:PySem.W.Frag):V->List V->Hp->VK->Prop:=λ x vs H Q=>∃ l b xs zs,x=.ref l/\vs=[.ref b]/\H l=some (.lst xs)/\SqL K H b zs/\xs.length + zs.length<=sizeLine/\Q .non (upd H l (.lst (xs++zs)))
theorem mt_extL:MtR X "list.extend" (rExtL X.K):=by
  intro pins s σ H x vs v us Q I rx rv h
  obtain ⟨l,b,xs,zs,rfl,rfl,hH,hB,hz,q⟩:=h
  cases rx
  obtain ⟨u,rfl,ru⟩:=rv.one
  cases ru
  obtain ⟨z,its,n,r,hl,e⟩:=I.lstM hH
  obtain ⟨its2,r2,⟨⟨c2,d2,dt2,s2⟩,n2,e2,hc2,hdn,hd2⟩,z2⟩:=I.list hB
  have hl2:=r2.length
  cases hc2
  cases hdn
  cases hd2
  have hsz:its.toArray.size + its2.toArray.size<=sizeLine:=by rw [List.size_toArray,List.size_toArray]; omega
  have hlong:¬ (!its.toArray.isEmpty&&Builtin.List.listTooLong (its.toArray.size + its2.toArray.size))=true:=by
    rw [notLongL hsz,Bool.and_false]
    exact Bool.false_ne_true
  refine call_meets F.slot_list_extend ⟨_,e,rfl⟩ F.entry_list_extend (F.args_list_extend_2 _ _)
    (list_extend_lst l its.toArray n b its2.toArray n2 none s2 hlong (by rw [List.size_toArray]; omega) (by omega)) ⟨e,e2,?_⟩
  refine ⟨.non,_,I.lset (its':=its++its2) hH e (by simp) (r.append r2) ?_,rfl,q⟩
  rw [List.length_append]
  omega
variable {W:XP} {e:Expr} {fs:Ga->R (Bool×List D)} {pos pos' apos cpos:Pos} {x:Str}
noncomputable def sExt (i:Nat) (fs:Ga->R (Bool×List D)):Ga->RS:=λ Γ=>match Γ[i]? with
  | some (.own xs)=>.of (fs Γ) Γ λ p=>if xs.length + p.2.length < 16000000 then .nx (Γ.set i (.own (xs++p.2))) else .no
  | _=>.no
theorem x_ext (i:Nat) (he:SqD X W e fs) (hN:X.N[i]?=some x:=by rfl) (hv:Vis X.env.scope x:=by first | exact Or.inl rfl | exact Or.inr (Or.inl rfl) | exact Or.inr (Or.inr rfl)) (hd:(x == ("__debug__":Str))=false:=by decide)
    (hcd:(x == ("__classdict__":Str))=false:=by decide) (hs:starEach [e] X.env=[(false,eval e X.env)]:=by rfl) (hline:(apos.endLine == cpos.line)=true:=by rfl)
    (hsw:swapsWith (.Call (.Attribute (.Name x pos') "extend" apos) [e] [] cpos) none pos.line X.env=pure false:=by rfl)
    (hbase:attributeBase (.Name x pos') "extend" X.env (eval (.Name x pos') X.env)=eval (.Name x pos') X.env:=by rfl)
    (hfew:((backTo cpos (starEach [e] X.env)).all (λ x=>!x.1)&&(backToKw cpos (keywordEach [] X.env)).all (λ x=>x.1.isSome)
     &&decide ([e].length + ([]:List Keyword).length + (if ([]:List Keyword).isEmpty then 0 else 1) < 30))=true:=by rfl) :
    ExD X W (.Expr (.Call (.Attribute (.Name x pos') "extend" apos) [e] [] cpos) pos) (sExt i fs):=by
  obtain ⟨t,p,q⟩:=he
  refine ⟨_,ps_expr (pe_bm PySem.F.plainAttrs_list PySem.F.slot_list_extend PySem.F.type_list_extend (mt_extL.or mt_extT) (pe_var hN hv hd hcd) (pa_cons p pa_nil hs) hbase hfew hline hs rfl) hsw,λ H₀ G₀ Γ σ H G R D w=>?_⟩
  unfold sExt at w
  split at w
  · rename_i xs e1
    obtain ⟨a,vs,s1,s2,s3,s4,s5⟩:=R.ow i xs e1
    refine ⟨_,s1,.inl ⟨rfl,vs,SqL.of s2⟩,?_⟩
    refine q _ _ _ _ _ _ R _ (wS R w λ d w b us H' G' E1 sq l2=>?_)
    split at w
    · rename_i hz
      have l1:=s5.up E1.gg
      have hz':vs.length + us.length<=sizeLine:=by rw [<- l1.length,<- l2.length]; exact Nat.le_of_lt (lt24 hz)
      have fin:=w _ _ G' ((R.after E1).mut e1 s1 (l1.append l2))
      rcases sq.or E1.gh with sq | sq
      · exact .inl ⟨a,b,vs,us,rfl,rfl,E1.hh.lst s2,sq,hz',fin⟩
      · exact .inr ⟨a,b,vs,us,rfl,rfl,E1.hh.lst s2,sq,hz',fin⟩
    · exact w.elim
  · exact w.elim
end
end Wy

namespace Wy
open PySem PySem.Spec PyProof.Rows L2 HT
theorem adjust_rev (n:Nat):Builtin.Slice.sliceAdjust none none (-1) (n:Int)=((n:Int) - 1,-1):=by
  unfold Builtin.Slice.sliceAdjust
  simp
theorem places_rev (n:Nat):Builtin.Slice.slicePlaces ((n:Int) - 1) (-1) (-1)=n:=by
  unfold Builtin.Slice.slicePlaces
  simp
  split <;> omega
theorem pick_rev (xs:Array Value):((List.range xs.size).filterMap λ (m:Nat)=>xs[(((xs.size:Int) - 1) + (m:Int) * (-1)).toNat]?).toArray=xs.toList.reverse.toArray:=by
  congr 1
  have key:∀ (k:Nat) (hk:k<=xs.size),((List.range k).filterMap λ (m:Nat)=>xs[(((xs.size:Int) - 1) + (m:Int) * (-1)).toNat]?)=xs.toList.reverse.take k:=by
    intro k
    induction k with
    | zero=>intro _; simp
    | succ k ih =>
      intro hk
      rw [List.range_succ,List.filterMap_append,ih (by omega)]
      have e:(((xs.size:Int) - 1) + (k:Int) * (-1)).toNat=xs.size - 1 - k:=by omega
      have h1:xs.toList.reverse[k]?=xs[xs.size - 1 - k]?:=by
        rw [List.getElem?_reverse (by simp; omega)]
        simp
      have h2:xs[xs.size - 1 - k]?=some xs[xs.size - 1 - k]:=Array.getElem?_eq_getElem (by omega)
      rw [List.take_add_one,h1,h2]
      congr 1
      rw [List.filterMap_cons_some (b:=xs[xs.size - 1 - k]) (by rw [e]; exact h2)]
      rfl
  rw [key xs.size (Nat.le_refl _),List.take_of_length_le (by simp)]
section
variable {prog:Program} {w:World} {A:Around} {E:Value->Shared->Prop} {s:Shared}
theorem sliceApplied_rev {sl:Addr} {t:Tok} {n:Nat} {Q:Int×Int×Nat->Shared->Prop} (hs:s.heap.IsSliceOf sl .none .none (.int (-1) t))
    (h:Q ((n:Int) - 1,-1,n) s):wpAny (model prog w) A (Builtin.Slice.sliceApplied (.ref sl) (pure (n:Int))) Q E s:=by
  obtain ⟨os,hos,hcs,hds⟩:=id hs
  unfold Builtin.Slice.sliceApplied Builtin.Slice.sliceFields
  refine wpAny_bind (wpAny_bind (wpAny_field hos hds (x:=.none) rfl (wpAny_bind (wpAny_field hos hds (x:=.none) rfl (wpAny_bind (wpAny_field hos hds (x:=.int (-1) t) rfl (wpAny_pure ?_)))))))
  refine wpAny_bind (slicePart_int ?_)
  show wpAny _ _ (if ((-1:Int) == 0)=true then _ else _) _ _ s
  rw [if_neg (by decide)]
  refine wpAny_bind (slicePart_none (wpAny_bind (slicePart_none (wpAny_bind (wpAny_pure ?_)))))
  show wpAny _ _ (match Builtin.Slice.sliceAdjust none none (-1) (n:Int) with | (lo,hi)=>pure (lo,(-1:Int),Builtin.Slice.slicePlaces lo hi (-1))) _ _ s
  rw [adjust_rev n]
  show wpAny _ _ (pure ((n:Int) - 1,(-1:Int),Builtin.Slice.slicePlaces ((n:Int) - 1) (-1) (-1))) _ _ s
  rw [places_rev]
  exact wpAny_pure h
theorem getItem_tuple_rev {t sl:Addr} {tk:Tok} {items:Array Value} {Q:Value->Shared->Prop} (ht:IsTup s.heap t items) (hs:s.heap.IsSliceOf sl .none .none (.int (-1) tk))
    (h:Q (.ref s.heap.objs.size) { s with heap:=s.heap.push { cls:=.type "tuple",data:=.seq items.toList.reverse.toArray } })
    (hsz:items.size<=sizeLine):wpAny (model prog w) A (getItem (.ref t) (.ref sl)) Q E s:=by
  have htake:sizeOk (.seq items.toList.reverse.toArray):=by
    show items.toList.reverse.toArray.size<=sizeLine
    rw [List.size_toArray,List.length_reverse,Array.length_toList]
    exact hsz
  obtain ⟨os,hos,hcs,hds⟩:=id hs
  have hTs:s.TypeIs (.ref sl) "slice":=⟨os,hos,hcs⟩
  unfold getItem
  try with_reducible refine wpAny_holding ?_
  first | refine wpAny_bind (wpAny_pure ?_) | skip
  refine wpAny_bind (wpAny_sequenceKey ht.typeIs (by decide) ?_)
  refine wpAny_bind (wpAny_callSpecial?_slot (name:=Str.ofString "__getitem__") ht.typeIs PyProof.Rows.slot_tuple_getitem
    (wpAny_call_entry PyProof.Rows.slot_tuple_getitem ht.typeIs entry_tuple_getitem ?_ (args_tuple_getitem _ _)))
  show wpAny _ _ (Builtin.Tuple.tupleItemsOf (.ref t)>>=_) _ _ s
  refine wpAny_bind (tupleItemsOf_ ht ?_)
  refine wpAny_bind (wpAny_typeOf hTs ?_)
  rw [if_pos (by decide)]
  refine wpAny_bind (sliceApplied_rev hs ?_)
  have hno:¬ ((((items.size:Int) - 1) == 0&&(-1:Int) == 1&&items.size == items.size)=true):=by simp
  show wpAny _ _ (if ((((items.size:Int) - 1) == 0&&(-1:Int) == 1&&items.size == items.size)=true) then _ else _) _ _ s
  rw [if_neg hno,pick_rev]
  first
    | exact wpAny_bind (m:=Builtin.Tuple.tupleExact _) (wpAny_newObj_type (wpAny_pure ⟨_,rfl,wpAny_pure h⟩) htake)
    | exact wpAny_bind (m:=Builtin.Tuple.tupleExact _) (wpAny_newObj_type (wpAny_bind (wpAny_pure (wpAny_pure ⟨_,rfl,wpAny_pure h⟩))) htake)
    | exact wpAny_bind (wpAny_bind (m:=Builtin.Tuple.tupleExact _) (wpAny_newObj_type (wpAny_pure (wpAny_pure ⟨_,rfl,wpAny_pure h⟩)) htake))
    | exact wpAny_bind (wpAny_bind (m:=Builtin.Tuple.tupleExact _) (wpAny_newObj_type (wpAny_pure ⟨_,rfl,wpAny_pure h⟩) htake))
end
theorem sub_step {prog:Program} {w:World} {A:Around} {E:Value->Shared->Prop} {s:Shared} {env:Env} {v st:Expr} {lo hi:Option Expr} {p1 p2:Pos} {T id:String} {Q:Value->Shared->Prop} (look:typeLookup (.type T) "__getitem__"=pure (some (.builtin id)))
    (h:wpAny (model prog w) A (eval v env) (λ o s1=>wpAny (model prog w) A (eval (.Slice lo hi (some st) p1) env) (λ i s2=>s2.TypeIs o T/\wpAny (model prog w) A (getItem o i) Q E s2) E s1) E s) :
    wpAny (model prog w) A (eval (.Subscript v (.Slice lo hi (some st) p1) p2) env) Q E s:=by
  rw [eval_Subscript]
  refine wpAny_bind (thn h λ o s1 h1=>wpAny_bind (wpAny_holding (thn h1 λ i s2 ⟨ty,h2⟩=>wpAny_bind (wpAny_standAt ?_))))
  have fin:wpAny (model prog w) A (operate [o,i] (getItem o i)) (λ r s3=>wpAny (model prog w) A (letTemporaryGo v o r>>=λ _=>pure r) Q E s3) E s2:=wpAny_operating (thn h2 λ r s3 h3=>wpAny_bind (wpAny_letTemporaryGo (wpAny_pure h3)))
  first
    | (refine wpAny_bind ?_
       rw [getitemInPython_of_ne ty.not_modules]
       refine wpAny_bind (wpAny_specialOf ty look ?_)
       first | exact wpAny_pure (wpAny_bind fin) | exact wpAny_bind (wpAny_pure (wpAny_bind fin)) | exact wpAny_bind fin)
    | (refine wpAny_bind (wpAny_specialOf ty look ?_)
       first | exact wpAny_bind (wpAny_pure (wpAny_bind fin)) | exact wpAny_bind fin)
section
variable {X:Cx} {W:XP} {e:Expr} {f:Ga->R D} {pos p2 p3 p4:Pos}
theorem denL_rev {K:PySem.W.Frag} {G:Hp}:∀ {ds:List D} {vs:List V},DenL K G ds vs->DenL K G ds.reverse vs.reverse
  | [],vs,h=>by cases denL_nil.mp h; exact denL_nil.mpr rfl
  | d::ds,vs,h=>by
    obtain ⟨v,r,rfl,h1,h2⟩:=denL_cons.mp h
    rw [List.reverse_cons,List.reverse_cons]
    exact (denL_rev h2).append (.one h1)
noncomputable def revT:D->Option D
  | .tup ds=>some (.tup ds.reverse)
  | _=>none
noncomputable def eRevT (f:Ga->R D):Ga->R D:=λ Γ=>(f Γ).bind λ d=>.ofO (revT d)
theorem ev_revT {j:Nat} (he:EvD X W e f):EvD X W (.Subscript e (.Slice none none (some (.UnaryOp .USub (.Constant (.int 1) j p4) p3)) p2) pos) (eRevT f):=by
  obtain ⟨t,p,q⟩:=he
  refine ⟨λ σ H Q=>t σ H λ x H1=>∃ a vs,x=.ref a/\SqT X.K H1 a vs/\∀ p,H1 p=none->Q (.ref p) (upd H1 p (.tup vs.reverse)),?_,?_⟩
  · intro pins s σ H Q I h
    refine sub_step slot_tuple_getitem.lookup (thn (p pins s σ H _ I h) λ v s1 ⟨x,H1,I1,r1,a,vs,hx,sq,w⟩=>?_)
    subst hx
    cases r1
    refine wpAny_Slice ?_
    rw [evalPart_none]
    refine wpAny_pure (wpAny_pure ?_)
    rw [evalPart_some]
    refine thn (pe_un un_neg (pe_int (i:=1) (j:=j) (pos:=p4)) pins s1 σ H1 (λ z H2=>z=.int (-1)/\H2=H1) I1 ⟨1,rfl,rfl,rfl⟩) λ v2 s2 ⟨x2,H2,I2,r2,hz,hH⟩=>?_
    subst hz
    subst hH
    obtain ⟨tk,rfl⟩:=r2
    have I4:Inv X pins σ H2 { s2 with heap:=s2.heap.push { cls:=.type "slice",data:=.fields #[.none,.none,.int (-1) tk] } }:=I2.kept (t':=s2.toks) λ b ob q=>Heap.get?_push_of_some _ q
    obtain ⟨its,r,ht,hz⟩:=I4.tuple sq
    refine ⟨ht.typeIs,getItem_tuple_rev ht (Heap.IsSliceOf.new _ _ _ _) ?_ (by rw [List.size_toArray,<- r.length]; exact hz)⟩
    refine ⟨.ref _,_,I4.laid (t':=s2.toks) (o:=.tup vs.reverse) (λ b ob q=>Heap.get?_push_of_some _ q) (Nat.le_refl _) ?_,rfl,w _ (I4.hok.fresh (Nat.le_refl _))⟩
    refine ⟨by rw [List.length_reverse]; exact hz,its.reverse,r.reverse,?_⟩
    have:=IsTup.new (h:=s2.heap.push { cls:=.type "slice",data:=.fields #[.none,.none,.int (-1) tk] }) its.reverse.toArray
    simpa using this
  · intro H₀ G₀ Γ σ H G R Q w
    refine q _ _ _ _ _ _ R _ (wStep w (λ _ h=>h) λ d w v H' G' E1 d1=>?_)
    obtain ⟨d',e2,w⟩:=wOfO w
    cases d with
    | tup ds =>
      cases e2
      obtain ⟨a,vs,rfl,sq,l⟩:=den_tup.mp d1
      refine ⟨a,vs,rfl,Same.seqT E1.gh sq,λ p hp=>?_⟩
      have A:=Ext.alloc (o:=.tup vs.reverse) E1.gh hp
      exact w _ _ _ (E1.trans A) (den_tup.mpr ⟨p,_,rfl,SqT.of upd_same,(denL_rev l).up A.gg⟩)
    | _=>cases e2
end
end Wy

namespace Wy
open PySem PySem.Spec PyProof.Rows L2 HT
section
variable {X:Cx}
end
section
variable {X:Cx} {W:XP} {o e:Expr} {fo fe:Ga->R D} {fs:Ga->R (Bool×List D)} {apos cpos:Pos}
noncomputable def asSs:List D->Option (List Str)
  | []=>some []
  | .str b::ds=>(asSs ds).bind λ r=>some (b::r)
  | _=>none
theorem asSs_den {K:PySem.W.Frag} {G:Hp}:∀ {ds:List D} {vs:List V} {bs:List Str},DenL K G ds vs->asSs ds=some bs->vs=bs.map V.str
  | [],vs,bs,h,e=>by cases e; exact denL_nil.mp h
  | d::ds,vs,bs,h,e=>by
    obtain ⟨v,r,rfl,h1,h2⟩:=denL_cons.mp h
    cases d <;> first | cases e | skip
    obtain ⟨r',e1,e2⟩:=Option.bind_eq_some_iff.mp e
    cases e2
    rw [den_strE h1,asSs_den h2 e1]
    rfl
theorem denL_strs {K:PySem.W.Frag} {G:Hp}:∀ (xs:List Str),DenL K G (xs.map D.str) (xs.map V.str)
  | []=>denL_nil.mpr rfl
  | x::xs=>denL_cons.mpr ⟨_,_,rfl,den_str,denL_strs xs⟩
end
end Wy

namespace Wy
open PySem PySem.Spec PyProof.Rows L2 HT
theorem part_of {v:Value} {o:Option Int} (h:IsPart v o):∃ l:Option (Int×Tok),v=partValue l/\l.map (·.1)=o:=by
  cases h with
  | none=>exact ⟨none,rfl,rfl⟩
  | int i t=>exact ⟨some (i,t),rfl,rfl⟩
section
variable {X:Cx}
theorem sl_str:SlR X (λ x lo hi H Q=>∃ z,x=.str z/\z.length<=sizeLine/\Q (.str (Txt.slice z lo hi)) H):=by
  rintro pins s σ H x v vl vu lo hi sl Q I rx hs pl pu ⟨z,rfl,hz,q⟩
  obtain ⟨t,rfl⟩:=rx
  obtain ⟨l,rfl,rfl⟩:=part_of pl
  obtain ⟨u,rfl,rfl⟩:=part_of pu
  refine ⟨"str",_,PyProof.Rows.slot_str_getitem.lookup,typeIs_str _ _ _,wpAny_getItem_str_slice (l:=l) (u:=u) (st:=none) hs rfl ?_⟩
  unfold sliceMade
  unfold Txt.slice at q
  by_cases h:((1:Int) == 1&&(Builtin.Str.strSliceIndices (l.map (·.1)) (u.map (·.1)) 1 z.length).length == z.length)=true
  · rw [if_pos h] at q
    rw [if_pos (show ((Option.map (λ x=>x.fst) (none:Option (Int×Tok))).getD 1 == 1&&(slicePicked z l u none).length == z.length)=true from h)]
    exact ⟨.str z,H,I,⟨_,rfl⟩,q⟩
  · rw [if_neg h] at q
    rw [if_neg (show ¬ ((Option.map (λ x=>x.fst) (none:Option (Int×Tok))).getD 1 == 1&&(slicePicked z l u none).length == z.length)=true from h)]
    refine ⟨Nat.le_trans ?_ hz,.str _,H,I.tok _,⟨_,rfl⟩,q⟩
    have hle:=PyProof.Txt.length_slice_le z (l.map (·.1)) (u.map (·.1))
    unfold Txt.slice at hle
    rw [if_neg h] at hle
    exact hle
variable {W:XP} {e:Expr} {f:Ga->R D} {pos p2:Pos} {lo hi:Option Expr} {gl gh:Ga->R (Option Int)}
noncomputable def slA (d:D) (l h:Option Int):Option D:=match d with
  | .tup ds=>some (.tup (cut ds l h))
  | .str z=>if z.length<=1000000 then some (.str (Txt.slice z l h)) else none
  | _=>none
noncomputable def eSlA (f:Ga->R D) (gl gh:Ga->R (Option Int)):Ga->R D:=λ Γ=>(f Γ).bind λ d=>(gl Γ).bind λ l=>(gh Γ).bind λ h=>.ofO (slA d l h)
theorem ev_slA (he:EvD X W e f) (hl:OvD X W lo gl) (hh:OvD X W hi gh):EvD X W (.Subscript e (.Slice lo hi none p2) pos) (eSlA f gl gh):=by
  obtain ⟨t,p,q⟩:=he
  obtain ⟨t1,p1,q1⟩:=hl
  obtain ⟨t2,p2,q2⟩:=hh
  refine ⟨_,pe_slice (sl_tupA.or sl_str) p p1 p2,λ H₀ G₀ Γ σ H G R Q w=>?_⟩
  refine q _ _ _ _ _ _ R _ (wStep w (λ _ h=>h) λ x w v H1 G1 E1 d1=>?_)
  refine q1 _ _ _ _ _ _ (R.after E1) _ (wStep w (λ _ h=>h.up E1) λ l w H2 G2 E2=>?_)
  refine q2 _ _ _ _ _ _ ((R.after E1).after E2) _ (wStep w (λ _ h=>h.up (E1.trans E2)) λ h w H3 G3 E3=>?_)
  obtain ⟨d,e',k⟩:=wOfO w
  have d3:=d1.up (E2.gg.trans E3.gg)
  cases x with
  | tup ds =>
    cases e'
    obtain ⟨a,vs,rfl,s,ls⟩:=den_tup.mp d3
    refine .inl ⟨a,vs,rfl,Same.seqT E3.gh s,λ hw=>?_,λ hw p hp=>?_⟩
    · rw [<- ls.length] at hw
      exact k _ _ _ (E1.trans (E2.trans E3)) (by rw [cut_whole hw]; exact d3)
    · have A:=Ext.alloc (o:=.tup (cutV vs l h)) E3.gh hp
      exact k _ _ _ (E1.trans (E2.trans (E3.trans A))) (den_tup.mpr ⟨p,_,rfl,SqT.of upd_same,(cut_den ls l h).up A.gg⟩)
  | str z =>
    unfold slA at e'
    dsimp only at e'
    split at e'
    · rename_i hz
      cases e'
      exact .inr ⟨z,den_strE d3,Nat.le_trans hz (by decide),k _ _ _ (E1.trans (E2.trans E3)) den_str⟩
    · cases e'
  | _=>cases e'
end
end Wy

namespace Wy
open PySem PySem.Spec PyProof.Rows L2 HT
noncomputable def asIs:List D->Option (List Int)
  | []=>some []
  | .int b::ds=>(asIs ds).bind λ r=>some (b::r)
  | _=>none
theorem asIs_den {K:PySem.W.Frag} {G:Hp}:∀ {ds:List D} {vs:List V} {bs:List Int},DenL K G ds vs->asIs ds=some bs->vs=bs.map V.int
  | [],vs,bs,h,e=>by cases e; exact denL_nil.mp h
  | d::ds,vs,bs,h,e=>by
    obtain ⟨v,r,rfl,h1,h2⟩:=denL_cons.mp h
    cases d <;> first | cases e | skip
    obtain ⟨r',e1,e2⟩:=Option.bind_eq_some_iff.mp e
    cases e2
    rw [den_intE h1,asIs_den h2 e1]
    rfl
@[simp] theorem asIs_map (ns:List Int):asIs (ns.map D.int)=some ns:=by
  induction ns with
  | nil=>rfl
  | cons n ns ih=>rw [List.map_cons,asIs,ih]; rfl
section
variable {X:Cx}
end
end Wy

namespace Wy
open PySem PySem.Spec PyProof.Rows L2 HT
theorem boot_ValueError:bootBuiltins "ValueError"=some (.type "ValueError"):=by rfl
section
variable {K:PySem.W.Frag} {H₀ G₀ H G:Hp} {Γ:Ga} {σ:L2.St}
theorem Rep.freeze (R:Rep K H₀ G₀ Γ σ H G) {i:Nat} {ds:List D} (hi:Γ[i]?=some (.own ds)):∃ G',Rep K H₀ G₀ (Γ.set i (.val (.lst ds))) σ H G':=by
  obtain ⟨a,vs,s1,s2,s3,s4,s5⟩:=R.ow i ds hi
  have hl:i < Γ.length:=(List.getElem?_eq_some_iff.mp hi).1
  have gg:Same G (upd G a (.lst vs)):=same_upd s4 _
  refine ⟨upd G a (.lst vs),R.ex.take s3 s2 s4,R.tab.updG s2 s4,by rw [List.length_set]; exact R.ln,λ j x q=>?_,λ j k x y b q1 q2 m1 m2 q3 q4=>?_⟩
  · rcases set_at q with ⟨rfl,rfl,_⟩ | ⟨ne,q⟩
    · exact ⟨_,s1,den_lst.mpr ⟨a,vs,rfl,SqL.of upd_same,s5.up gg⟩⟩
    · have old:=R.all j x q
      have nb:∀ b,x.mu=true->σ[j]?=some (some (V.ref b))->b≠a:=λ b hm hb z=>by
        subst z
        exact ne (R.di i j _ _ b hi q rfl hm s1 hb)
      cases x with
      | un=>trivial
      | val d=>obtain ⟨v,e1,e2⟩:=old; exact ⟨v,e1,e2.up gg⟩
      | exc c=>obtain ⟨v,e1,e2⟩:=old; exact ⟨v,e1,e2.up gg⟩
      | fn c φ=>exact ⟨old.1,old.2.2 _ _ gg old.2.1,old.2.2⟩
      | own zs =>
        obtain ⟨b,us,e1,e2,e3,e4,e5⟩:=old
        exact ⟨b,us,e1,e2,e3,by rw [upd_ne (nb b rfl e1)]; exact e4,e5.up gg⟩
      | par b zs =>
        obtain ⟨e1,us,e2,e3,e4,e5⟩:=old
        exact ⟨e1,us,e2,e3,by rw [upd_ne (nb b rfl e1)]; exact e4,e5.up gg⟩
      | dic w kvs =>
        obtain ⟨b,us,e1,e2,e3,e4,e5⟩:=old
        exact ⟨b,us,e1,e2,e3,by rw [upd_ne (nb b rfl e1)]; exact e4,e5.up gg⟩
      | vdi w kvs =>
        obtain ⟨b,us,e1,e2,e3,e5⟩:=old
        exact ⟨b,us,e1,e2,e3,e5.up gg⟩
  · rcases set_at q1 with ⟨rfl,rfl,_⟩ | ⟨n1,q1⟩
    · cases m1
    · rcases set_at q2 with ⟨rfl,rfl,_⟩ | ⟨n2,q2⟩
      · cases m2
      · exact R.di j k x y b q1 q2 m1 m2 q3 q4
end
section
variable {X:Cx} {W:XP} {st:Stmt} {fl:Ga->R (List D)}
theorem x_freeze {i:Nat} (h:ExD X W st (sSetO i fl)):ExD X W st (sSet i (eO fl)):=by
  obtain ⟨t,p,q⟩:=h
  refine ⟨t,p,λ H₀ G₀ Γ σ H G R D w=>q _ _ _ _ _ _ R D ?_⟩
  unfold sSet eO at w
  unfold sSetO
  cases hf:fl Γ with
  | ok ds =>
    rw [hf] at w
    intro σ' H' G' R'
    by_cases hi:i < Γ.length
    · obtain ⟨G2,R2⟩:=R'.freeze (i:=i) (ds:=ds) (by rw [List.getElem?_set_self hi])
      rw [List.set_set] at R2
      exact w _ _ _ R2
    · rw [List.set_eq_of_length_le (Nat.not_lt.mp hi)] at R'
      refine w σ' H' G' ?_
      rw [List.set_eq_of_length_le (Nat.not_lt.mp hi)]
      exact R'
  | ex c=>rw [hf] at w; exact w
  | no=>rw [hf] at w; exact w
end
section
variable {X:Cx}
variable {W:XP} {a b:Expr} {fa fb:Ga->R (Bool×List D)} {pos:Pos}
end
end Wy


namespace Wy
open PySem PySem.Spec PyProof.Rows L2
section
variable {α β:Type} {Γ Γ':Ga} {d x y:D} {xs ys:List D} {f fa fb fc:Ga->R D} {fl:Ga->R (List D)} {fs gs:Ga->R (Bool×List D)} {g ga gb:Ga->R Bool} {T U:Ga->RS} {F F':D->D->Option D} {n:Nat} {sl:Sl} {c:Str}
@[simp] theorem addD_int {i j:Int}:addD (.int i) (.int j)=some (.int (i + j)):=nr rfl
@[simp] theorem eqDD_int {i j:Int}:eqDD (.int i) (.int j)=decide (i=j):=by unfold eqDD; rw [Bool.eq_iff_iff]; simp
@[simp] theorem eqDD_str {i j:Str}:eqDD (.str i) (.str j)=decide (i=j):=by unfold eqDD; rw [Bool.eq_iff_iff]; simp
@[simp] theorem eqDD_bl {i j:Bool}:eqDD (.bl i) (.bl j)=decide (i=j):=by unfold eqDD; rw [Bool.eq_iff_iff]; simp
@[simp] theorem eqDD_tup:eqDD (.tup xs) (.tup ys)=eqDL xs ys:=by conv=>lhs; unfold eqDD
@[simp] theorem eqDD_lst:eqDD (.lst xs) (.lst ys)=eqDL xs ys:=by conv=>lhs; unfold eqDD
@[simp] theorem eqDL_nil:eqDL [] []=true:=by unfold eqDL; rfl
@[simp] theorem eqDL_cons {a b:D}:eqDL (a::xs) (b::ys)=(eqDD a b&&eqDL xs ys):=by conv=>lhs; unfold eqDL
mutual
theorem eqDD_refl:∀ d:D,eqDD d d=true
  | .non=>by unfold eqDD; rfl
  | .bl b=>by simp
  | .int b=>by simp
  | .str b=>by simp
  | .tup xs=>by rw [eqDD_tup]; exact eqDL_refl xs
  | .lst xs=>by rw [eqDD_lst]; exact eqDL_refl xs
theorem eqDL_refl:∀ ds:List D,eqDL ds ds=true
  | []=>eqDL_nil
  | d::ds=>by rw [eqDL_cons,eqDD_refl d,eqDL_refl ds]; rfl
end
@[simp] theorem depD_int {i:Int}:depD (.int i)=0:=by unfold depD; rfl
@[simp] theorem depD_str {i:Str}:depD (.str i)=0:=by unfold depD; rfl
@[simp] theorem depD_bl {i:Bool}:depD (.bl i)=0:=by unfold depD; rfl
theorem eqD_of (h:depD x<=100):eqD x y=some (.bl (eqDD x y)):=if_pos (.inl h)
theorem neD_of (h:depD x<=100):neD x y=some (.bl (!eqDD x y)):=if_pos h
@[simp] theorem eqD_int {i:Int}:eqD (.int i) y=some (.bl (eqDD (.int i) y)):=eqD_of (by simp)
@[simp] theorem eqD_str {i:Str}:eqD (.str i) y=some (.bl (eqDD (.str i) y)):=eqD_of (by simp)
@[simp] theorem neD_int {i:Int}:neD (.int i) y=some (.bl (!eqDD (.int i) y)):=neD_of (by simp)
@[simp] theorem neD_bl {i:Bool}:neD (.bl i) y=some (.bl (!eqDD (.bl i) y)):=neD_of (by simp)
theorem memA_tup (h:depDL ys<=99):memA x (.tup ys)=some (.bl (ys.any λ z=>eqDD z x)):=by
  unfold memA orD memD
  simp only [h,if_true]
theorem memA_lst (h:depDL ys<=99):memA x (.lst ys)=some (.bl (ys.any λ z=>eqDD z x)):=by
  unfold memA orD memD
  simp only [h,if_true]
theorem depDL_le:∀ {ds:List D} {n:Nat},(∀ d∈ds,depD d<=n)->depDL ds<=n
  | [],n,_=>by unfold depDL; exact Nat.zero_le _
  | d::ds,n,h=>by
    unfold depDL
    exact Nat.max_le.mpr ⟨h d List.mem_cons_self,depDL_le λ x hx=>h x (List.mem_cons_of_mem _ hx)⟩
theorem depDL_strs (ss:List Str):depDL (ss.map D.str)<=99:=depDL_le λ d hd=>by
  obtain ⟨s,_,rfl⟩:=List.mem_map.mp hd
  simp
@[simp] theorem sRaise_eq:sRaise c fl Γ=.of (fl Γ) Γ λ _=>.ex c Γ:=nr rfl
@[simp] theorem eRevT_eq:eRevT f Γ=(f Γ).bind λ d=>.ofO (revT d):=nr rfl
@[simp] theorem revT_tup:revT (.tup xs)=some (.tup xs.reverse):=nr rfl
@[simp] theorem eSlA_eq {gl gh:Ga->R (Option Int)}:eSlA f gl gh Γ=(f Γ).bind λ d=>(gl Γ).bind λ l=>(gh Γ).bind λ h=>.ofO (slA d l h):=nr rfl
@[simp] theorem slA_tup {l h:Option Int}:slA (.tup xs) l h=some (.tup (cut xs l h)):=nr rfl
@[simp] theorem sExt_eq:sExt n fs Γ=match Γ[n]? with | some (.own xs)=>.of (fs Γ) Γ λ p=>if xs.length + p.2.length < 16000000 then .nx (Γ.set n (.own (xs++p.2))) else .no | _=>.no:=nr rfl
theorem anyS_eq {bs:List Bool}:anyS (false,bs.map D.bl)=some (.bl (bs.any id)):=by
  have:asBs (bs.map D.bl)=some bs:=by
    induction bs with
    | nil=>rfl
    | cons b bs ih=>rw [List.map_cons,asBs,ih]; rfl
  unfold anyS
  dsimp only
  rw [this]
  rfl
@[simp] theorem asSs_map (ts:List Str):asSs (ts.map D.str)=some ts:=by
  induction ts with
  | nil=>rfl
  | cons n ns ih=>rw [List.map_cons,asSs,ih]; rfl
noncomputable def RS.tr (r:RS) (tb:Str->Option Bool) (U:Str->Ga->RS):RS:=match r with
  | .ex c Γ'=>(match tb c with
    | some true=>U c Γ'
    | some false=>.ex c Γ'
    | none=>.no)
  | r=>r
section
variable {tb:Str->Option Bool} {V:Str->Ga->RS} {yb:Str->Bool}
@[simp] theorem sTry_eq:sTry tb T V Γ=RS.tr (T Γ) tb V:=nr rfl
theorem tr_ex (h:tb c=some true):RS.tr (.ex c Γ) tb V=V c Γ:=by unfold RS.tr; dsimp only; rw [h]
noncomputable def RS.hn (r:RS) (j:Nat):RS:=match r with
  | .nx Γ'=>.nx (Γ'.set j .un)
  | .bk Γ'=>.bk (Γ'.set j .un)
  | .ct Γ'=>.ct (Γ'.set j .un)
  | .rt d=>.rt d
  | _=>.no
@[simp] theorem hNamed_eq:hNamed n U c Γ=RS.hn (U (Γ.set n (.exc c))) n:=nr rfl
@[simp] theorem hn_nx:RS.hn (.nx Γ) n=.nx (Γ.set n .un):=nr rfl
theorem eIsx_at (h:Γ[n]?=some (.exc c)) (hy:yb c=true):eIsx n yb Γ=.ok (.bl true):=by
  unfold eIsx
  rw [h]
  exact if_pos hy
end
end
end Wy


namespace Wy
open PySem PySem.Spec PyProof.Rows L2 HT
noncomputable def srt (ns:List Int):List Int:=ns.mergeSort (λ a b=>decide (a<=b))
theorem srt_sorted (ns:List Int):(srt ns).Pairwise (·<=·):=by
  have:=List.pairwise_mergeSort (le:=λ a b:Int=>decide (a<=b)) (λ a b c h1 h2=>by simp only [decide_eq_true_iff] at *; omega) (λ a b=>by simp only [Bool.or_eq_true,decide_eq_true_iff]; omega) ns
  exact this.imp λ h=>of_decide_eq_true h
theorem srt_perm (ns:List Int):(srt ns).Perm ns:=List.mergeSort_perm ns _
theorem srt_uniq {ns ms:List Int} (h:ms.Perm ns) (hs:ms.Pairwise (·<=·)):ms=srt ns :=
  List.Perm.eq_of_pairwise (λ a b _ _ h1 h2=>Int.le_antisymm h1 h2) hs (srt_sorted ns) (h.trans (srt_perm ns).symm)
theorem vals_ints:∀ {us:List Value} {ns:List Int},IntsAre us ns->Vals (ns.map V.int) us
  | _,_,.nil=>.nil
  | _,_,.cons n t r=>.cons ⟨_,rfl⟩ (vals_ints r)
section
variable {X:Cx}
variable {W:XP} {e:Expr} {fs:Ga->R (Bool×List D)} {pos p2:Pos}
theorem denL_ints {K:PySem.W.Frag} {G:Hp}:∀ (xs:List Int),DenL K G (xs.map D.int) (xs.map V.int)
  | []=>denL_nil.mpr rfl
  | x::xs=>denL_cons.mpr ⟨_,_,rfl,den_int,denL_ints xs⟩
end
section
variable {X:Cx}
variable {W:XP} {o e:Expr} {fs:Ga->R (Bool×List D)} {fe:Ga->R D} {apos cpos:Pos}
end
end Wy

namespace Wy
open PySem PySem.Spec PyProof.Rows L2 HT
section
variable {X:Cx} {W:XP} {e ix:Expr} {f fi:Ga->R D} {pos pos' p2 apos cpos:Pos} {x:Str}
end
end Wy

namespace Wy
open PySem PySem.Spec PyProof.Rows L2 HT
noncomputable def frz (i:Nat) (Γ:Ga):Ga:=match Γ[i]? with
  | some (.own xs)=>Γ.set i (.val (.lst xs))
  | _=>Γ
noncomputable def sFrz (i:Nat) (F:Ga->RS):Ga->RS:=λ Γ=>F (frz i Γ)
section
variable {X:Cx} {W:XP} {st:Stmt} {F:Ga->RS}
theorem x_frz (i:Nat) (h:ExD X W st F):ExD X W st (sFrz i F):=by
  obtain ⟨t,p,q⟩:=h
  refine ⟨t,p,λ H₀ G₀ Γ σ H G R D w=>?_⟩
  unfold sFrz frz at w
  split at w
  · rename_i xs e
    obtain ⟨G',R'⟩:=R.freeze e
    exact q _ _ _ _ _ _ R' D w
  · exact q _ _ _ _ _ _ R D w
end
@[simp] theorem frz_own {xs:List D} {Γ:Ga}:frz 0 (.own xs::Γ)=.val (.lst xs)::Γ:=nr rfl
@[simp] theorem frz_succ {n:Nat} {s:Sl} {Γ:Ga}:frz (n + 1) (s::Γ)=s::frz n Γ:=by
  unfold frz
  rw [List.getElem?_cons_succ]
  cases h:Γ[n]? with
  | none=>rfl
  | some a=>cases a <;> rfl
section
variable {α:Type} {Γ:Ga} {d x:D} {xs ys:List D} {f fi:Ga->R D} {fs:Ga->R (Bool×List D)} {n:Nat}
end
end Wy


namespace Lw
open PySem PySem.Spec PyProof.Rows L2 Wy Wl
noncomputable abbrev N_q9:List Str:=["_law_script","_law_k"]
noncomputable def B_q9:Ga->RS:=(sSeq (sIf (tB (e2 ltD (eV 1) (eB lenD (aCons (eV 0) aNil)))) (sRet (e2 ixD (eV 0) (eV 1))) sNext) (sRet (eC (.int 0))))
noncomputable def M_q9:List D->R D:=λ ds=>callR N_q9 (B_q9) ds
noncomputable abbrev N_q13:List Str:=["_law_cell_here","_law_prime","_law_many"]
noncomputable def B_q13:Ga->RS:=(sRet (e2 (int2 modI) (e2 (int2 modI) (e2 (int2 mulI) (eV 0) (eC (.int 48271))) (eV 1)) (eV 2)))
noncomputable def M_q13:List D->R D:=λ ds=>callR N_q13 (B_q13) ds
noncomputable abbrev N_q4:List Str:=["_law_seed","_law_left","_law_turn","_law_one"]
noncomputable def B_q4 (M_q13:List D->R D) (M_q4:List D->R D):Ga->RS:=(sSeq (sSet 2 (eCall M_q13 (aCons (eV 0) (aCons (eC (.int 9973)) (aCons (eC (.int 11)) aNil))))) (sSeq (sIf (tOrR (tB (e2 eqD (eV 1) (eC (.int 0)))) (tB (e2 ltD (eV 2) (eC (.int 2))))) (sRet (eTup (aCons (eC (.str "name")) (aCons (eIxS (sO (aCons (eC (.str "a")) (aCons (eC (.str "b")) (aCons (eC (.str "zz")) aNil)))) (eCall M_q13 (aCons (eV 0) (aCons (eC (.int 9967)) (aCons (eC (.int 3)) aNil))))) aNil)))) sNext) (sSeq (sSet 3 (eCall M_q4 (aCons (e2 addD (e2 (int2 mulI) (eV 0) (eC (.int 3))) (eC (.int 1))) (aCons (e2 (int2 λ i j=>some (.int (i - j))) (eV 1) (eC (.int 1))) aNil)))) (sSeq (sIf (tB (e2 ltD (eV 2) (eC (.int 4)))) (sRet (eTup (aCons (eC (.str "not")) (aCons (eV 3) aNil)))) sNext) (sSeq (sIf (tB (e2 ltD (eV 2) (eC (.int 8)))) (sRet (eTup (aCons (eIxS (sO (aCons (eC (.str "and")) (aCons (eC (.str "or")) aNil))) (eCall M_q13 (aCons (eV 0) (aCons (eC (.int 9949)) (aCons (eC (.int 2)) aNil))))) (aCons (eV 3) (aCons (eCall M_q4 (aCons (e2 addD (e2 (int2 mulI) (eV 0) (eC (.int 5))) (eC (.int 2))) (aCons (e2 (int2 λ i j=>some (.int (i - j))) (eV 1) (eC (.int 1))) aNil))) aNil))))) sNext) (sRet (eTup (aCons (eIxS (sO (aCons (eC (.str "all")) (aCons (eC (.str "some")) aNil))) (eCall M_q13 (aCons (eV 0) (aCons (eC (.int 9941)) (aCons (eC (.int 2)) aNil))))) (aCons (eCall M_q13 (aCons (eV 0) (aCons (eC (.int 9931)) (aCons (eC (.int 3)) aNil)))) (aCons (eV 3) aNil))))))))))
noncomputable def M_q4:Nat->List D->R D
  | 0,_=>.no
  | n + 1,ds=>callR N_q4 (B_q4 M_q13 (M_q4 n)) ds
noncomputable abbrev N_q11:List Str:=["_law_script","_law_k","_law_own","_law_count","_law_found","_law_world","_law_names","_law_at","_law_name","_law_ways","_law_kind","_law_seed","_law_some"]
noncomputable def L_q11_2 (M_q13:List D->R D) (M_q9:List D->R D):Ga->RS:=(sIf (tB (e2 eqD (eCall M_q13 (aCons (e2 addD (e2 addD (eCall M_q9 (aCons (eV 0) (aCons (e2 addD (eV 1) (eC (.int 1))) aNil))) (e2 (int2 mulI) (eC (.int 7)) (eV 5))) (eV 7)) (aCons (eC (.int 9929)) (aCons (eC (.int 2)) aNil)))) (eC (.int 0)))) (sApp 6 (eV 8)) sNext)
noncomputable def L_q11_3 (M_q9:List D->R D) (M_q13:List D->R D):Ga->RS:=(sSeq (sSet 11 (e2 addD (eCall M_q9 (aCons (eV 0) (aCons (e2 addD (e2 addD (eV 1) (eC (.int 2))) (eV 10)) aNil))) (e2 (int2 mulI) (eC (.int 31)) (eV 5)))) (sSeq (sSet 12 (eO (cpR (iR1 (aCons (eV 3) aNil)) (tOrR (tB (e2 eqD (eCall M_q13 (aCons (e2 addD (eV 13) (e2 (int2 mulI) (eC (.int 5)) (eV 0))) (aCons (eC (.int 9923)) (aCons (eC (.int 3)) aNil)))) (eC (.int 0)))) (tAndR (tB (e2 eqD (eV 4) (eC (.int 1)))) (tB (e2 eqD (eV 0) (eV 7))))) (eV 0)))) (sApp 9 (eS tupS (sV 12)))))
noncomputable def L_q11_1 (M_q13:List D->R D) (M_q9:List D->R D):Ga->RS:=(sSeq (sSetO 6 aNil) (sSeq (sFor (iE (eO (aCons (eC (.str "a")) (aCons (eC (.str "b")) (aCons (eC (.str "zz")) aNil))))) (gTwo (gName' 7) (gName' 8)) (L_q11_2 M_q13 M_q9)) (sSeq (sSetO 9 aNil) (sSeq (sFor (iR1 (aCons (eC (.int 3)) aNil)) (gName' 10) (L_q11_3 M_q9 M_q13)) (sApp 4 (eTup (aCons (eS tupS (sV 6)) (aCons (eS tupS (sV 9)) aNil))))))))
noncomputable def B_q11 (M_q9:List D->R D) (M_q13:List D->R D):Ga->RS:=(sSeq (sSet 3 (e2 addD (eC (.int 1)) (e2 (int2 modI) (eCall M_q9 (aCons (eV 0) (aCons (eV 1) aNil))) (eC (.int 5))))) (sSeq (sSetO 4 aNil) (sSeq (sFor (iR1 (aCons (eV 3) aNil)) (gName' 5) (L_q11_1 M_q13 M_q9)) (sRet (eS tupS (sV 4))))))
noncomputable def M_q11:List D->R D:=λ ds=>callR N_q11 (B_q11 M_q9 M_q13) ds
noncomputable abbrev N_q7:List Str:=["_law_yard_here","_law_world","_law_saying_here","_law_one"]
noncomputable def L_q7_1 (M_q7:List D->R D):Ga->RS:=(sIf (tB (e2 neD (eCall M_q7 (aCons (eV 0) (aCons (eV 3) (aCons (e2 ixD (eV 2) (eC (.int 2))) aNil)))) (e2 eqD (e2 ixD (eV 2) (eC (.int 0))) (eC (.str "all"))))) (sRet (e2 eqD (e2 ixD (eV 2) (eC (.int 0))) (eC (.str "some")))) sNext)
noncomputable def B_q7 (M_q7:List D->R D):Ga->RS:=(sSeq (sIf (tB (e2 eqD (e2 ixD (eV 2) (eC (.int 0))) (eC (.str "name")))) (sRet (e2 memA (e2 ixD (eV 2) (eC (.int 1))) (e2 ixD (e2 ixD (eV 0) (eV 1)) (eC (.int 0))))) sNext) (sSeq (sIf (tB (e2 eqD (e2 ixD (eV 2) (eC (.int 0))) (eC (.str "not")))) (sRet (eNot (eCall M_q7 (aCons (eV 0) (aCons (eV 1) (aCons (e2 ixD (eV 2) (eC (.int 1))) aNil)))))) sNext) (sSeq (sIf (tB (e2 eqD (e2 ixD (eV 2) (eC (.int 0))) (eC (.str "and")))) (sRet (eAnd (eCall M_q7 (aCons (eV 0) (aCons (eV 1) (aCons (e2 ixD (eV 2) (eC (.int 1))) aNil)))) (eCall M_q7 (aCons (eV 0) (aCons (eV 1) (aCons (e2 ixD (eV 2) (eC (.int 2))) aNil)))))) sNext) (sSeq (sIf (tB (e2 eqD (e2 ixD (eV 2) (eC (.int 0))) (eC (.str "or")))) (sRet (eOr (eCall M_q7 (aCons (eV 0) (aCons (eV 1) (aCons (e2 ixD (eV 2) (eC (.int 1))) aNil)))) (eCall M_q7 (aCons (eV 0) (aCons (eV 1) (aCons (e2 ixD (eV 2) (eC (.int 2))) aNil)))))) sNext) (sSeq (sFor (iT (e2 ixD (e2 ixD (e2 ixD (eV 0) (eV 1)) (eC (.int 1))) (e2 ixD (eV 2) (eC (.int 1))))) (gName' 3) (L_q7_1 M_q7)) (sRet (e2 eqD (e2 ixD (eV 2) (eC (.int 0))) (eC (.str "all")))))))))
noncomputable def M_q7:Nat->List D->R D
  | 0,_=>.no
  | n + 1,ds=>callR N_q7 (B_q7 (M_q7 n)) ds
end Lw


namespace Wl
open PySem PySem.Spec PyProof.Rows L2 Wy
inductive Say where
  | nm (x:Str) | neg (a:Say) | two (c:Bool) (a b:Say) | way (c:Bool) (k:Nat) (a:Say)
  deriving DecidableEq
noncomputable def hd2 (c:Bool):Str:=if c=true then "and" else "or"
noncomputable def hdw (c:Bool):Str:=if c=true then "all" else "some"
noncomputable def dS:Say->D
  | .nm x=>.tup [.str "name",.str x]
  | .neg a=>.tup [.str "not",dS a]
  | .two c a b=>.tup [.str (hd2 c),dS a,dS b]
  | .way c k a=>.tup [.str (hdw c),.int (k:Int),dS a]
noncomputable def depS:Say->Nat
  | .nm _=>0
  | .neg a=>depS a + 1
  | .two _ a b=>max (depS a) (depS b) + 1
  | .way _ _ a=>depS a + 1
noncomputable def okS:Say->Bool
  | .nm x=>decide (x∈(["a","b","zz"]:List Str))
  | .neg a=>okS a
  | .two _ a b=>okS a&&okS b
  | .way _ k a=>decide (k < 3)&&okS a
noncomputable def nam (s:Int):Str:=(["a","b","zz"]:List Str).getD (mixI s 9967 3).toNat ""
noncomputable def lawS:Nat->Int->Say
  | 0,s=>.nm (nam s)
  | n + 1,s=>if mixI s 9973 11 < 2 then .nm (nam s) else if mixI s 9973 11 < 4 then .neg (lawS n (s * 3 + 1)) else if mixI s 9973 11 < 8 then .two (decide (mixI s 9949 2=0)) (lawS n (s * 3 + 1)) (lawS n (s * 5 + 2))
    else .way (decide (mixI s 9941 2=0)) (mixI s 9931 3).toNat (lawS n (s * 3 + 1))
theorem mix3 (s p:Int):(mixI s p 3=0∨mixI s p 3=1)∨mixI s p 3=2:=by
  have:=mix_lt s p 3 (by decide); omega
theorem mix2 (s p:Int):mixI s p 2=0∨mixI s p 2=1:=by
  have:=mix_lt s p 2 (by decide); omega
theorem nam_ok (s:Int):nam s∈(["a","b","zz"]:List Str):=by
  unfold nam
  rcases mix3 s 9967 with (h | h) | h <;> rw [h] <;> decide
theorem lawS_ok:∀ (n:Nat) (s:Int),okS (lawS n s)=true/\depS (lawS n s)<=n
  | 0,s=>⟨decide_eq_true (nam_ok s),Nat.le_refl _⟩
  | n + 1,s=>by
    have h1:=lawS_ok n (s * 3 + 1)
    have h2:=lawS_ok n (s * 5 + 2)
    have h3:=mix_lt s 9931 3 (by decide)
    unfold lawS
    split
    · exact ⟨decide_eq_true (nam_ok s),Nat.zero_le _⟩
    · split
      · exact ⟨h1.1,Nat.succ_le_succ h1.2⟩
      · split
        · refine ⟨by simp [okS,h1.1,h2.1],?_⟩
          simp only [depS]
          omega
        · refine ⟨by simp [okS,h1.1]; omega,?_⟩
          simp only [depS]
          omega
end Wl
namespace Lw
open PySem PySem.Spec PyProof.Rows L2 Wy Wl
theorem m_mix (c p m:Int) (hp:0 < p) (hm:0 < m):M_q13 [.int c,.int p,.int m]=.ok (.int (mixI c p m)):=by
  simp [M_q13,B_q13,begin_,hp,hm,mixI]
theorem m_cell (ns:List Int) (k:Nat):M_q9 [dLs ns,.int k]=.ok (.int (cellI ns k)):=by
  by_cases h:k < ns.length
  · have e:atI (ns.map D.int) (k:Int)=some (D.int (cellI ns k)):=atI_nat (by simp [cellI,h,List.getD_eq_getElem?_getD])
    simp [M_q9,B_q9,begin_,dLs,h,e]
  · have e:cellI ns k=0:=by simp [cellI,List.getD_eq_getElem?_getD,List.getElem?_eq_none (by omega:ns.length<=k)]
    simp [M_q9,B_q9,begin_,dLs,h,e]
theorem at_nam (s:Int):atI [D.str "a",D.str "b",D.str "zz"] (mixI s 9967 3)=some (.str (nam s)):=by
  unfold nam
  rcases mix3 s 9967 with (h | h) | h <;> rw [h] <;> rfl
theorem at_hd2 (s p:Int):atI [D.str "and",D.str "or"] (mixI s p 2)=some (.str (hd2 (decide (mixI s p 2=0)))):=by
  rcases mix2 s p with h | h <;> rw [h] <;> rfl
theorem at_hdw (s p:Int):atI [D.str "all",D.str "some"] (mixI s p 2)=some (.str (hdw (decide (mixI s p 2=0)))):=by
  rcases mix2 s p with h | h <;> rw [h] <;> rfl
theorem m_saying:∀ (n left:Nat) (s:Int),left < n->M_q4 n [.int s,.int left]=.ok (dS (lawS left s))
  | 0,_,_,h=>absurd h (Nat.not_lt_zero _)
  | n + 1,0,s,_=>by simp [M_q4,B_q4,begin_,m_mix,at_nam,lawS,dS]
  | n + 1,left + 1,s,h=>by
    have ih1:=m_saying n left (s * 3 + 1) (by omega)
    have ih2:=m_saying n left (s * 5 + 2) (by omega)
    have e0:¬ ((left:Int) + 1=0):=by omega
    have e1:(left:Int) + 1 - 1=(left:Int):=by omega
    have hk:=mix_lt s 9931 3 (by decide)
    have ek:(((mixI s 9931 3).toNat:Nat):Int)=mixI s 9931 3:=Int.toNat_of_nonneg hk.1
    by_cases c1:mixI s 9973 11 < 2
    · simp [M_q4,B_q4,begin_,m_mix,at_nam,lawS,dS,e0,e1,c1]
    · by_cases c2:mixI s 9973 11 < 4
      · simp [M_q4,B_q4,begin_,m_mix,lawS,dS,e0,e1,c1,c2,ih1]
      · by_cases c3:mixI s 9973 11 < 8
        · simp [M_q4,B_q4,begin_,m_mix,lawS,dS,e0,e1,c1,c2,c3,ih1,ih2,at_hd2]
        · simp [M_q4,B_q4,begin_,m_mix,lawS,dS,e0,e1,c1,c2,c3,ih1,at_hdw,ek]
end Lw

namespace Lw
open PySem PySem.Spec PyProof.Rows L2 Wy Wl
noncomputable def tName (ns:List Int) (k w:Nat) (acc:List D) (d:D):List D:=match d with
  | .tup [.int i,.str x]=>if mixI (cellI ns (k + 1) + 7 * (w:Int) + i) 9929 2=0 then acc++[.str x] else acc
  | _=>acc
theorem turn_name (ns:List Int) (k w:Nat) (own c:Int) (found acc:List D) (x9 x10 x11 x12 a b:Sl) (i:Int) (x:Str) (hl:acc.length < 16000000) :
    L_q11_2 M_q13 M_q9 [.val (dLs ns),.val (.int k),.val (.int own),.val (.int c),.own found,.val (.int w),.own acc,.val (.int i),.val (.str x),x9,x10,x11,x12] =
      .nx [.val (dLs ns),.val (.int k),.val (.int own),.val (.int c),.own found,.val (.int w),.own (tName ns k w acc (.tup [.int i,.str x])),.val (.int i),.val (.str x),x9,x10,x11,x12]:=by
  have e1:M_q9 [dLs ns,.int ((k:Int) + 1)]=.ok (.int (cellI ns (k + 1))):=m_cell ns (k + 1)
  by_cases h:mixI (cellI ns (k + 1) + 7 * (w:Int) + i) 9929 2=0
  · simp [L_q11_2,e1,m_mix,h,hl,tName]
  · simp [L_q11_2,e1,m_mix,h,hl,tName]
theorem names_fold (ns:List Int) (k w:Nat):(enumL [.str "a",.str "b",.str "zz"]).foldl (tName ns k w) []=(yNames ns k w).map D.str:=by
  show tName ns k w (tName ns k w (tName ns k w [] (.tup [.int ((0:Nat):Int),.str "a"])) (.tup [.int ((1:Nat):Int),.str "b"])) (.tup [.int ((2:Nat):Int),.str "zz"])=_
  unfold yNames
  simp only [tName]
  by_cases c1:mixI (cellI ns (k + 1) + 7 * (w:Int) + ((0:Nat):Int)) 9929 2=0 <;> by_cases c2:mixI (cellI ns (k + 1) + 7 * (w:Int) + ((1:Nat):Int)) 9929 2=0 <;> by_cases c3:mixI (cellI ns (k + 1) + 7 * (w:Int) + ((2:Nat):Int)) 9929 2=0 <;> simp only [c1,c2,c3,if_true,if_false,List.filter,decide_true,decide_false,List.map,List.nil_append,List.cons_append]
theorem turn_kind (ns:List Int) (k w kind:Nat) (own:Int) (found nms acc:List D) (x7 x8 x11 x12:Sl) (hl:acc.length < 16000000) :
    ∃ y11 y12,L_q11_3 M_q9 M_q13 [.val (dLs ns),.val (.int k),.val (.int own),.val (.int (yCount ns k)),.own found,.val (.int w),.own nms,x7,x8,.own acc,.val (.int kind),x11,x12] =
      .nx [.val (dLs ns),.val (.int k),.val (.int own),.val (.int (yCount ns k)),.own found,.val (.int w),.own nms,x7,x8,.own (acc++[dRow (yRow ns k own w kind)]),.val (.int kind),y11,y12]:=by
  have hc:=yCount_le ns k
  have e1:M_q9 [dLs ns,.int ((k:Int) + 2 + (kind:Int))]=.ok (.int (cellI ns (k + 2 + kind))):=m_cell ns (k + 2 + kind)
  have eR:rng1 [.int (yCount ns k:Int)]=some ((List.range (yCount ns k)).map λ (j:Nat)=>D.int (j:Int)):=rng1_nat (by omega)
  refine ⟨.val (.int (cellI ns (k + 2 + kind) + 31 * (w:Int))),.val (.lst ((yRow ns k own w kind).map λ (n:Nat)=>D.int (n:Int))),?_⟩
  have hcomp:∀ Γ:Ga,Γ=[.val (dLs ns),.val (.int k),.val (.int own),.val (.int (yCount ns k)),.own found,.val (.int w),.own nms,x7,x8,.own acc,.val (.int kind),.val (.int (cellI ns (k + 2 + kind) + 31 * (w:Int))),x12]->
      compR (tOrR (Wy.tB (e2 eqD (eCall M_q13 (aCons (e2 addD (eV 13) (e2 (int2 mulI) (eC (.int 5)) (eV 0))) (aCons (eC (.int 9923)) (aCons (eC (.int 3)) aNil)))) (eC (.int 0)))) (tAndR (Wy.tB (e2 eqD (eV 4) (eC (.int 1)))) (Wy.tB (e2 eqD (eV 0) (eV 7))))) (eV 0) Γ ((List.range (yCount ns k)).map λ (j:Nat)=>D.int (j:Int))=.ok ((yRow ns k own w kind).map λ (n:Nat)=>D.int (n:Int)):=λ Γ hΓ=>by
    subst hΓ
    rw [compR_filter (p:=λ d=>match d with | .int j=>decide (mixI (cellI ns (k + 2 + kind) + 31 * (w:Int) + 5 * j) 9923 3=0)||(decide (own=1)&&decide (j=(w:Int))) | _=>false) (h:=id)]
    · rw [List.map_id,List.filter_map]
      have e:List.filter ((λ d:D=>match d with | .int j=>decide (mixI (cellI ns (k + 2 + kind) + 31 * (w:Int) + 5 * j) 9923 3=0)||(decide (own=1)&&decide (j=(w:Int))) | _=>false) ∘ λ (j:Nat)=>D.int (j:Int)) (List.range (yCount ns k))=yRow ns k own w kind:=by
        unfold yRow
        apply List.filter_congr
        intro x _
        have:decide ((x:Int)=(w:Int))=decide (x=w):=by rw [Bool.eq_iff_iff]; simp; omega
        simp only [Function.comp,this]
      rw [e]
    · intro d hd
      obtain ⟨j,_,rfl⟩:=List.mem_map.mp hd
      by_cases h1:mixI (cellI ns (k + 2 + kind) + 31 * (w:Int) + 5 * (j:Int)) 9923 3=0
      · simp [m_mix,h1]
      · by_cases h2:own=1
        · simp [m_mix,h1,h2]
        · simp [m_mix,h1,h2]
    · intro d hd _
      obtain ⟨j,_,rfl⟩:=List.mem_map.mp hd
      simp
  have hl2:yCount ns k < 16000000:=by omega
  simp [L_q11_3,e1,eR,hcomp _ rfl,hl,dRow,hl2]
theorem rows_fold (ns:List Int) (k w:Nat) (own:Int):((List.range 3).map λ (j:Nat)=>D.int (j:Int)).foldl (λ acc d=>match d with | .int i=>acc++[dRow (yRow ns k own w i.toNat)] | _=>acc) []=((List.range 3).map (yRow ns k own w)).map dRow:=by
  show []++[dRow (yRow ns k own w 0)]++[dRow (yRow ns k own w 1)]++[dRow (yRow ns k own w 2)]=_
  rfl
theorem turn_world (ns:List Int) (k w:Nat) (own:Int) (found:List D) (x6 x7 x8 x9 x10 x11 x12:Sl) (hl:found.length < 16000000) :
    ∃ y6 y7 y8 y9 y10 y11 y12,L_q11_1 M_q13 M_q9 [.val (dLs ns),.val (.int k),.val (.int own),.val (.int (yCount ns k)),.own found,.val (.int w),x6,x7,x8,x9,x10,x11,x12] =
      .nx [.val (dLs ns),.val (.int k),.val (.int own),.val (.int (yCount ns k)),.own (found++[dWd (lawWd ns k own w)]),.val (.int w),y6,y7,y8,y9,y10,y11,y12]:=by
  obtain ⟨Γ1,h1,ha,a,b',rfl⟩:=turns_ix (g:=gTwo (gName' 7) (gName' 8)) (T:=L_q11_2 M_q13 M_q9) (λ i acc Γ=>acc.length<=i/\∃ a b,Γ=[.val (dLs ns),.val (.int k),.val (.int own),.val (.int (yCount ns k)),.own found,.val (.int w),.own acc,a,b,x9,x10,x11,x12]) (tName ns k w)
    (enumL [.str "a",.str "b",.str "zz"]) 0 [] [.val (dLs ns),.val (.int k),.val (.int own),.val (.int (yCount ns k)),.own found,.val (.int w),.own [],x7,x8,x9,x10,x11,x12] (by
      rintro i acc d Γ hd ⟨hi,a,b,rfl⟩
      have hd':=hd
      have hi3:i < 3:=(List.getElem?_eq_some_iff.mp hd).1
      have hm:∃ (j:Nat) (x:Str),d=.tup [.int (j:Int),.str x]:=by
        match i,hi3,hd with
        | 0,_,hd=>cases hd; exact ⟨0,"a",rfl⟩
        | 1,_,hd=>cases hd; exact ⟨1,"b",rfl⟩
        | 2,_,hd=>cases hd; exact ⟨2,"zz",rfl⟩
      obtain ⟨j,x,rfl⟩:=hm
      refine ⟨_,_,rfl,.inl (turn_name ns k w own (yCount ns k) found acc x9 x10 x11 x12 a b j x (by omega)),?_,_,_,rfl⟩
      simp only [tName]
      split <;> simp <;> omega) ⟨by simp,_,_,rfl⟩
  rw [names_fold] at h1
  obtain ⟨Γ2,h2,hb,c',d',e',rfl⟩:=turns_ix (g:=gName' 10) (T:=L_q11_3 M_q9 M_q13) (λ i acc Γ=>acc.length<=i/\∃ c d e,Γ=[.val (dLs ns),.val (.int k),.val (.int own),.val (.int (yCount ns k)),.own found,.val (.int w),.own ((yNames ns k w).map D.str),a,b',.own acc,c,d,e]) (λ acc d=>match d with | .int i=>acc++[dRow (yRow ns k own w i.toNat)] | _=>acc)
    ((List.range 3).map λ (j:Nat)=>D.int (j:Int)) 0 [] [.val (dLs ns),.val (.int k),.val (.int own),.val (.int (yCount ns k)),.own found,.val (.int w),.own ((yNames ns k w).map D.str),a,b',.own [],x10,x11,x12] (by
      rintro i acc d Γ hd ⟨hi,c,d',e,rfl⟩
      have hi3:i < 3:=by simpa using (List.getElem?_eq_some_iff.mp hd).1
      rw [List.getElem?_map,List.getElem?_range hi3] at hd
      cases hd
      obtain ⟨y11,y12,hq⟩:=turn_kind ns k w i own found ((yNames ns k w).map D.str) acc a b' d' e (by omega)
      exact ⟨_,_,rfl,.inl hq,by simp; omega,_,_,_,rfl⟩) ⟨by simp,_,_,_,rfl⟩
  rw [rows_fold] at h2
  have eR3:rng1 [.int 3]=some ((List.range 3).map λ (j:Nat)=>D.int (j:Int)):=rng1_nat (k:=3) (by decide)
  exact ⟨.own ((yNames ns k w).map D.str),a,b',.own (((List.range 3).map (yRow ns k own w)).map dRow),c',d',e',by simp only [L_q11_1]; simp [h1,h2,eR3,hl,dWd,lawWd,dNames,dWays]⟩
theorem m_yard (ns:List Int) (k:Nat) (own:Int):M_q11 [dLs ns,.int k,.int own]=.ok (dYd (lawYd ns k own)):=by
  have hc:=yCount_le ns k
  have e0:(1:Int) + cellI ns k % 5=(yCount ns k:Int):=by
    have h1:=Int.emod_nonneg (cellI ns k) (show (5:Int)≠0 by decide)
    unfold yCount
    omega
  have eR:rng1 [.int (yCount ns k:Int)]=some ((List.range (yCount ns k)).map λ (j:Nat)=>D.int (j:Int)):=rng1_nat (by omega)
  obtain ⟨Γ1,h1,ha,y6,y7,y8,y9,y10,y11,y12,y13,rfl⟩:=turns_ix (g:=gName' 5) (T:=L_q11_1 M_q13 M_q9) (λ i acc Γ=>acc.length<=i/\∃ a b c d e f g h,Γ=[.val (dLs ns),.val (.int k),.val (.int own),.val (.int (yCount ns k)),.own acc,a,b,c,d,e,f,g,h])
    (λ acc d=>match d with | .int i=>acc++[dWd (lawWd ns k own i.toNat)] | _=>acc)
    ((List.range (yCount ns k)).map λ (j:Nat)=>D.int (j:Int)) 0 [] [.val (dLs ns),.val (.int k),.val (.int own),.val (.int (yCount ns k)),.own [],.un,.un,.un,.un,.un,.un,.un,.un] (by
      rintro i acc d Γ hd ⟨hi,a,b,c,d',e,f,g,h,rfl⟩
      have hi3:i < yCount ns k:=by simpa using (List.getElem?_eq_some_iff.mp hd).1
      rw [List.getElem?_map,List.getElem?_range hi3] at hd
      cases hd
      obtain ⟨y6,y7,y8,y9,y10,y11,y12,hq⟩:=turn_world ns k i own acc b c d' e f g h (by omega)
      exact ⟨_,_,rfl,.inl hq,by simp; omega,_,_,_,_,_,_,_,_,rfl⟩) ⟨by simp,_,_,_,_,_,_,_,_,rfl⟩
  have ef:((List.range (yCount ns k)).map λ (j:Nat)=>D.int (j:Int)).foldl (λ acc d=>match d with | .int i=>acc++[dWd (lawWd ns k own i.toNat)] | _=>acc) []=(lawYd ns k own).map dWd:=by
    rw [List.foldl_map]
    have:=foldl_app (λ (j:Nat)=>dWd (lawWd ns k own j)) (List.range (yCount ns k)) []
    simp only [Int.toNat_natCast]
    rw [this]
    simp [lawYd]
  rw [ef] at h1
  simp [M_q11,B_q11,begin_,m_cell,e0,eR,h1,dYd]
end Lw


namespace Wl
open PySem PySem.Spec PyProof.Rows L2 Wy
noncomputable def wdAt (Y:List Wd) (w:Nat):Wd:=Y.getD w ([],[])
noncomputable def rowAt (Y:List Wd) (w k:Nat):List Nat:=(wdAt Y w).2.getD k []
noncomputable def sat (Y:List Wd):Say->Nat->Bool
  | .nm x,w=>decide (x∈(wdAt Y w).1)
  | .neg a,w=>!sat Y a w
  | .two c a b,w=>if c=true then sat Y a w&&sat Y b w else sat Y a w||sat Y b w
  | .way c k a,w=>if c=true then (rowAt Y w k).all (sat Y a) else (rowAt Y w k).any (sat Y a)
structure YOk (Y:List Wd):Prop where
  three:∀ w∈Y,w.2.length=3
  there:∀ w∈Y,∀ r∈w.2,∀ v∈r,v < Y.length
  rise:∀ w∈Y,∀ r∈w.2,r.Pairwise (· < ·)
  names:∀ w∈Y,w.1.Sublist ["a","b","zz"]
  pos:1<=Y.length
theorem wdAt_mem {Y:List Wd} {w:Nat} (h:w < Y.length):wdAt Y w∈Y:=by
  unfold wdAt
  rw [List.getD_eq_getElem?_getD,List.getElem?_eq_getElem h]
  exact List.getElem_mem h
theorem wdAt_get {Y:List Wd} {w:Nat} (h:w < Y.length):Y[w]?=some (wdAt Y w):=by
  unfold wdAt
  rw [List.getD_eq_getElem?_getD,List.getElem?_eq_getElem h]
  rfl
theorem rowAt_there {Y:List Wd} (hY:YOk Y) {w k:Nat} (h:w < Y.length):∀ v∈rowAt Y w k,v < Y.length:=by
  intro v hv
  unfold rowAt at hv
  rw [List.getD_eq_getElem?_getD] at hv
  cases e:(wdAt Y w).2[k]? with
  | none=>rw [e] at hv; cases hv
  | some r =>
    rw [e] at hv
    exact hY.there _ (wdAt_mem h) r (List.mem_of_getElem? e) v hv
theorem ways_at {Y:List Wd} (hY:YOk Y) {w k:Nat} (h:w < Y.length) (hk:k < 3):ixD (dWays (wdAt Y w).2) (.int (k:Int))=some (dRow (rowAt Y w k)):=by
  have hl:=hY.three _ (wdAt_mem h)
  rw [show dWays (wdAt Y w).2=.tup ((wdAt Y w).2.map dRow) from rfl,ixD_tup]
  refine atI_nat ?_
  unfold rowAt
  rw [List.getElem?_map,List.getD_eq_getElem?_getD,List.getElem?_eq_getElem (by omega:k < (wdAt Y w).2.length)]
  rfl
@[simp] theorem w_not_name:(Str.ofString "not"=Str.ofString "name")=False:=eq_false (by decide)
@[simp] theorem w_not_all:(Str.ofString "not"=Str.ofString "all")=False:=eq_false (by decide)
@[simp] theorem w_not_some:(Str.ofString "not"=Str.ofString "some")=False:=eq_false (by decide)
@[simp] theorem w_and_name:(Str.ofString "and"=Str.ofString "name")=False:=eq_false (by decide)
@[simp] theorem w_and_not:(Str.ofString "and"=Str.ofString "not")=False:=eq_false (by decide)
@[simp] theorem w_and_or:(Str.ofString "and"=Str.ofString "or")=False:=eq_false (by decide)
@[simp] theorem w_and_all:(Str.ofString "and"=Str.ofString "all")=False:=eq_false (by decide)
@[simp] theorem w_and_some:(Str.ofString "and"=Str.ofString "some")=False:=eq_false (by decide)
@[simp] theorem w_or_name:(Str.ofString "or"=Str.ofString "name")=False:=eq_false (by decide)
@[simp] theorem w_or_not:(Str.ofString "or"=Str.ofString "not")=False:=eq_false (by decide)
@[simp] theorem w_or_and:(Str.ofString "or"=Str.ofString "and")=False:=eq_false (by decide)
@[simp] theorem w_or_all:(Str.ofString "or"=Str.ofString "all")=False:=eq_false (by decide)
@[simp] theorem w_or_some:(Str.ofString "or"=Str.ofString "some")=False:=eq_false (by decide)
@[simp] theorem w_all_name:(Str.ofString "all"=Str.ofString "name")=False:=eq_false (by decide)
@[simp] theorem w_all_not:(Str.ofString "all"=Str.ofString "not")=False:=eq_false (by decide)
@[simp] theorem w_all_and:(Str.ofString "all"=Str.ofString "and")=False:=eq_false (by decide)
@[simp] theorem w_all_or:(Str.ofString "all"=Str.ofString "or")=False:=eq_false (by decide)
@[simp] theorem w_all_some:(Str.ofString "all"=Str.ofString "some")=False:=eq_false (by decide)
@[simp] theorem w_some_name:(Str.ofString "some"=Str.ofString "name")=False:=eq_false (by decide)
@[simp] theorem w_some_not:(Str.ofString "some"=Str.ofString "not")=False:=eq_false (by decide)
@[simp] theorem w_some_and:(Str.ofString "some"=Str.ofString "and")=False:=eq_false (by decide)
@[simp] theorem w_some_or:(Str.ofString "some"=Str.ofString "or")=False:=eq_false (by decide)
@[simp] theorem w_some_all:(Str.ofString "some"=Str.ofString "all")=False:=eq_false (by decide)
theorem mem_names (x:Str) (nms:List Str):memA (.str x) (dNames nms)=some (.bl (decide (x∈nms))):=by
  unfold dNames
  rw [memA_tup (depDL_strs nms)]
  congr 2
  rw [Bool.eq_iff_iff]
  rw [List.any_eq_true,decide_eq_true_iff]
  constructor
  · rintro ⟨d,hd,h⟩
    obtain ⟨z,hz,rfl⟩:=List.mem_map.mp hd
    rw [eqDD_str,decide_eq_true_iff] at h
    rw [<- h]
    exact hz
  · intro h
    exact ⟨_,List.mem_map.mpr ⟨x,h,rfl⟩,by simp⟩
section
variable {x:Str} {a b:Say} {c:Bool} {k:Nat}
@[simp] theorem nm_0:ixD (dS (.nm x)) (.int 0)=some (.str "name"):=by rw [dS,ixD_tup,atI_zero]
@[simp] theorem nm_1:ixD (dS (.nm x)) (.int 1)=some (.str x):=by rw [dS,ixD_tup,atI_one]
@[simp] theorem neg_0:ixD (dS (.neg a)) (.int 0)=some (.str "not"):=by rw [dS,ixD_tup,atI_zero]
@[simp] theorem neg_1:ixD (dS (.neg a)) (.int 1)=some (dS a):=by rw [dS,ixD_tup,atI_one]
@[simp] theorem two_0:ixD (dS (.two c a b)) (.int 0)=some (.str (hd2 c)):=by rw [dS,ixD_tup,atI_zero]
@[simp] theorem two_1:ixD (dS (.two c a b)) (.int 1)=some (dS a):=by rw [dS,ixD_tup,atI_one]
@[simp] theorem two_2:ixD (dS (.two c a b)) (.int 2)=some (dS b):=by rw [dS,ixD_tup,atI_two]
@[simp] theorem way_0:ixD (dS (.way c k a)) (.int 0)=some (.str (hdw c)):=by rw [dS,ixD_tup,atI_zero]
@[simp] theorem way_1:ixD (dS (.way c k a)) (.int 1)=some (.int (k:Int)):=by rw [dS,ixD_tup,atI_one]
@[simp] theorem way_2:ixD (dS (.way c k a)) (.int 2)=some (dS a):=by rw [dS,ixD_tup,atI_two]
end
end Wl
namespace Lw
open PySem PySem.Spec PyProof.Rows L2 Wy Wl
theorem holds_turns {n:Nat} {Y:List Wd} {s:Say} {c:Bool} {k:Nat} {wv:D} (IH:∀ v,v < Y.length->M_q7 n [dYd Y,.int (v:Int),dS s]=.ok (.bl (sat Y s v))):∀ (r:List Nat) (x:Sl),(∀ v∈r,v < Y.length) ->
    ∃ y,sTurns (gName' 3) (L_q7_1 (M_q7 n)) (r.map λ (v:Nat)=>D.int (v:Int)) [.val (dYd Y),.val wv,.val (dS (.way c k s)),x] =
      if (r.all λ v=>sat Y s v == c)=true then .nx [.val (dYd Y),.val wv,.val (dS (.way c k s)),y] else .rt (.bl !c)
  | [],x,_=>⟨x,rfl⟩
  | v::r,x,h=>by
    have hv:=IH v (h v List.mem_cons_self)
    obtain ⟨y,hy⟩:=holds_turns (c:=c) (k:=k) (wv:=wv) IH r (.val (.int (v:Int))) (λ u hu=>h u (List.mem_cons_of_mem _ hu))
    refine ⟨y,?_⟩
    have hL:L_q7_1 (M_q7 n) [.val (dYd Y),.val wv,.val (dS (.way c k s)),.val (.int (v:Int))]=if (sat Y s v == c)=true then .nx [.val (dYd Y),.val wv,.val (dS (.way c k s)),.val (.int (v:Int))] else .rt (.bl !c):=by
      cases hs:sat Y s v <;> cases c <;> simp [L_q7_1,hv,hs,hdw]
    rw [List.map_cons]
    unfold sTurns
    rw [gName_eq]
    dsimp only [List.set]
    rw [hL,List.all_cons]
    by_cases hs:(sat Y s v == c)=true
    · rw [if_pos hs,hs]
      exact hy
    · rw [if_neg hs,(Bool.not_eq_true _).mp hs]
      rfl
theorem m_q20 {Y:List Wd} (hY:YOk Y):∀ (n:Nat) (s:Say) (w:Nat),depS s < n->okS s=true->w < Y.length->M_q7 n [dYd Y,.int (w:Int),dS s]=.ok (.bl (sat Y s w))
  | 0,_,_,h,_,_=>absurd h (Nat.not_lt_zero _)
  | n + 1,.nm x,w,_,_,hw=>by
    simp [M_q7,B_q7,begin_,yd_at (wdAt_get hw),mem_names,sat]
  | n + 1,.neg a,w,h,ho,hw=>by
    have ih:=m_q20 hY n a w (Nat.lt_of_succ_lt_succ h) ho hw
    simp [M_q7,B_q7,begin_,ih,sat]
  | n + 1,.two c a b,w,h,ho,hw=>by
    simp only [depS,okS,Bool.and_eq_true] at h ho
    have ih1:=m_q20 hY n a w (by omega) ho.1 hw
    have ih2:=m_q20 hY n b w (by omega) ho.2 hw
    cases c <;> cases h1:sat Y a w <;> simp [M_q7,B_q7,begin_,ih1,ih2,sat,hd2,h1]
  | n + 1,.way c k a,w,h,ho,hw=>by
    simp only [depS,okS,Bool.and_eq_true,decide_eq_true_iff] at h ho
    obtain ⟨y,hy⟩:=holds_turns (c:=c) (k:=k) (wv:=.int (w:Int)) (λ v hv=>m_q20 hY n a v (by omega) ho.2 hv) (rowAt Y w k) .un (rowAt_there hY hw)
    have e1:=ways_at hY hw ho.1
    have key:((rowAt Y w k).all λ v=>sat Y a v == c)=true↔sat Y (.way c k a) w=c:=by
      cases c
      · simp [sat]
      · simp [sat]
    by_cases hh:((rowAt Y w k).all λ v=>sat Y a v == c)=true
    · rw [if_pos hh] at hy
      have e2:=key.mp hh
      cases c <;> simp [M_q7,B_q7,begin_,yd_at (wdAt_get hw),e1,hy,e2,hdw] <;> simp [hdw] at hy
    · rw [if_neg hh] at hy
      have e2:sat Y (.way c k a) w=!c:=by
        cases hq:sat Y (.way c k a) w <;> cases c <;> simp_all
      cases c <;> simp [M_q7,B_q7,begin_,yd_at (wdAt_get hw),e1,hy,e2,hdw]
end Lw

namespace Wl
open PySem PySem.Spec PyProof.Rows L2 Wy
theorem lawYd_len (ns:List Int) (k:Nat) (own:Int):(lawYd ns k own).length=yCount ns k:=by simp [lawYd]
theorem lawYd_ok (ns:List Int) (k:Nat) (own:Int):YOk (lawYd ns k own) where
  three:=λ w hw=>by
    obtain ⟨j,_,rfl⟩:=List.mem_map.mp hw
    simp [lawWd]
  there:=λ w hw r hr v hv=>by
    obtain ⟨j,_,rfl⟩:=List.mem_map.mp hw
    obtain ⟨q,_,rfl⟩:=List.mem_map.mp hr
    rw [lawYd_len]
    exact List.mem_range.mp (List.mem_filter.mp hv).1
  rise:=λ w hw r hr=>by
    obtain ⟨j,_,rfl⟩:=List.mem_map.mp hw
    obtain ⟨q,_,rfl⟩:=List.mem_map.mp hr
    exact List.Pairwise.filter _ List.pairwise_lt_range
  names:=λ w hw=>by
    obtain ⟨j,_,rfl⟩:=List.mem_map.mp hw
    exact List.Sublist.map (·.2) (List.filter_sublist (l:=([(0,"a"),(1,"b"),(2,"zz")]:List (Nat×Str))))
  pos:=by rw [lawYd_len]; exact (yCount_le ns k).1
theorem rise_len:∀ {l:List Nat} {m n:Nat},l.Pairwise (· < ·)->(∀ v∈l,m<=v/\v < n)->l.length<=n - m
  | [],_,_,_,_=>Nat.zero_le _
  | a::l,m,n,h,hb=>by
    rw [List.pairwise_cons] at h
    have ha:=hb a List.mem_cons_self
    have:=rise_len (m:=a + 1) (n:=n) h.2 λ v hv=>⟨h.1 v hv,(hb v (List.mem_cons_of_mem _ hv)).2⟩
    rw [List.length_cons]
    omega
theorem rowAt_len {Y:List Wd} (hY:YOk Y) {w k:Nat} (h:w < Y.length):(rowAt Y w k).length<=Y.length:=by
  have ht:=rowAt_there hY h (k:=k)
  have hr:(rowAt Y w k).Pairwise (· < ·):=by
    unfold rowAt
    rw [List.getD_eq_getElem?_getD]
    cases e:(wdAt Y w).2[k]? with
    | none=>exact List.Pairwise.nil
    | some r=>exact hY.rise _ (wdAt_mem h) r (List.mem_of_getElem? e)
  exact Nat.le_trans (rise_len hr λ v hv=>⟨Nat.zero_le _,ht v hv⟩) (Nat.sub_le _ _)
theorem turns_keep {g:D->Ga->Option Ga} {T:Ga->RS} (P:Ga->Prop) (ds:List D) (Γ:Ga) (h:∀ d Γ,d∈ds->P Γ->∃ Γ1 Γ',g d Γ=some Γ1/\(T Γ1=.nx Γ'∨T Γ1=.ct Γ')/\P Γ') (h0:P Γ):∃ Γ',sTurns g T ds Γ=.nx Γ'/\P Γ' :=
  turns_st (λ (_:Unit) Γ=>P Γ) (λ _ _=>()) ds () Γ (λ _ d Γ hd hp=>h d Γ hd hp) h0
theorem cut_int {ns:List Int} {l h:Option Int} {d:D} (hd:d∈cut (ns.map D.int) l h):∃ c:Int,d=.int c:=by
  unfold cut at hd
  have:=List.mem_of_mem_drop (List.mem_of_mem_take hd)
  obtain ⟨c,_,rfl⟩:=List.mem_map.mp this
  exact ⟨c,rfl⟩
end Wl


namespace Wl
open PySem PySem.Spec PyProof.Rows L2 Wy
end Wl


namespace Wl
open PySem PySem.Spec PyProof.Rows L2 Wy
theorem str_ext {a b:Str} (h:a.cps.toList=b.cps.toList):a=b:=by
  cases a with
  | mk x =>
    cases b with
    | mk y =>
      congr 1
      exact Array.toList_inj.mp h
theorem cps_app (a b:Str):(a++b).cps.toList=a.cps.toList++b.cps.toList:=by
  show (a.cps++b.cps).toList=_
  simp
noncomputable def gl:List (List Nat)->List Nat
  | []=>[]
  | [x]=>x
  | x::y::r=>x++32::gl (y::r)
noncomputable abbrev blank:Str:=" "
theorem blank_cps:blank.cps.toList=[32]:=by decide
theorem join_gl:∀ ws:List Str,(Txt.join blank ws).cps.toList=gl (ws.map λ w=>w.cps.toList):=by
  intro ws
  rw [show Txt.join blank ws=blank.join ws from StrLaws.glued_eq_join _ _]
  induction ws with
  | nil=>rfl
  | cons w ws ih =>
    cases ws with
    | nil=>rw [join_one]; rfl
    | cons v r =>
      rw [join_cons_cons,cps_app,cps_app,ih,blank_cps]
      simp [gl]
noncomputable def kt (k:Nat):Str:=Str.ofString (toString (k:Int))
noncomputable def words:Say->List Str
  | .nm x=>[x]
  | .neg a=>"not"::words a
  | .two c a b=>hd2 c::(words a++words b)
  | .way c k a=>hdw c::kt k::words a
noncomputable def txt:Say->Str
  | .nm x=>x
  | .neg a=>"not "++txt a
  | .two c a b=>hd2 c++" "++txt a++" "++txt b
  | .way c k a=>hdw c++" "++kt k++" "++txt a
theorem words_ne:∀ s,words s≠[]
  | .nm x=>by simp [words]
  | .neg a=>by simp [words]
  | .two c a b=>by simp [words]
  | .way c k a=>by simp [words]
theorem gl_cons {x:List Nat} {r:List (List Nat)} (h:r≠[]):gl (x::r)=x++32::gl r:=by
  cases r with
  | nil=>exact absurd rfl h
  | cons y r=>rfl
theorem gl_app:∀ {xs ys:List (List Nat)},xs≠[]->ys≠[]->gl (xs++ys)=gl xs++32::gl ys
  | [],_,h,_=>absurd rfl h
  | [x],ys,_,h=>by rw [List.singleton_append,gl_cons h]; rfl
  | x::y::r,ys,_,h=>by
    rw [List.cons_append,gl_cons (by simp),gl_app (xs:=y::r) (List.cons_ne_nil _ _) h]
    simp [gl]
theorem txt_gl:∀ s,(txt s).cps.toList=gl ((words s).map λ w=>w.cps.toList)
  | .nm x=>by simp [txt,words,gl]
  | .neg a=>by
    have h:((words a).map λ w=>w.cps.toList)≠[]:=by simpa using words_ne a
    rw [txt,words,cps_app,txt_gl a,List.map_cons,gl_cons h]
    rw [show ("not ":Str).cps.toList=("not":Str).cps.toList++[32] by decide]
    simp
  | .two c a b=>by
    have h1:((words a).map λ w=>w.cps.toList)≠[]:=by simpa using words_ne a
    have h2:((words b).map λ w=>w.cps.toList)≠[]:=by simpa using words_ne b
    rw [txt,words,cps_app,cps_app,cps_app,cps_app,txt_gl a,txt_gl b,List.map_cons,List.map_append,gl_cons (by simp [h1]),gl_app h1 h2]
    rw [show (Str.ofString " ").cps.toList=[32] from blank_cps]
    simp
  | .way c k a=>by
    have h1:((words a).map λ w=>w.cps.toList)≠[]:=by simpa using words_ne a
    rw [txt,words,cps_app,cps_app,cps_app,cps_app,txt_gl a,List.map_cons,List.map_cons,gl_cons (by simp),gl_cons h1]
    rw [show (Str.ofString " ").cps.toList=[32] from blank_cps]
    simp
theorem join_words (s:Say):Txt.join blank (words s)=txt s:=str_ext (by rw [join_gl,txt_gl])
theorem kt_lt {k:Nat} (h:k < 3):kt k=(["0","1","2"]:List Str).getD k "":=by
  match k,h with
  | 0,_=>decide
  | 1,_=>decide
  | 2,_=>decide
theorem txt_len:∀ s,okS s=true->(txt s).length + 8<=16 * 2 ^ depS s
  | .nm x,h=>by
    rw [okS,decide_eq_true_iff] at h
    simp only [List.mem_cons,List.not_mem_nil,or_false] at h
    rcases h with rfl | rfl | rfl <;> decide
  | .neg a,h=>by
    rw [okS] at h
    have ih:=txt_len a h
    rw [txt,Str.length_append,depS,Nat.pow_succ,show ("not ":Str).length=4 by decide]
    omega
  | .two c a b,h=>by
    rw [okS,Bool.and_eq_true] at h
    have h1:=txt_len a h.1
    have h2:=txt_len b h.2
    have p1:2 ^ depS a<=2 ^ max (depS a) (depS b):=Nat.pow_le_pow_right (by decide) (Nat.le_max_left _ _)
    have p2:2 ^ depS b<=2 ^ max (depS a) (depS b):=Nat.pow_le_pow_right (by decide) (Nat.le_max_right _ _)
    have hc:(hd2 c).length<=3:=by cases c <;> decide
    rw [txt,Str.length_append,Str.length_append,Str.length_append,Str.length_append,depS,Nat.pow_succ,show (Str.ofString " ").length=1 by decide]
    omega
  | .way c k a,h=>by
    rw [okS,Bool.and_eq_true,decide_eq_true_iff] at h
    have h1:=txt_len a h.2
    have hc:(hdw c).length<=4:=by cases c <;> decide
    have hk:(kt k).length=1:=by
      rw [kt_lt h.1]
      match k,h.1 with
      | 0,_=>decide
      | 1,_=>decide
      | 2,_=>decide
    rw [txt,Str.length_append,Str.length_append,Str.length_append,Str.length_append,depS,Nat.pow_succ,show (Str.ofString " ").length=1 by decide,hk]
    omega
end Wl


namespace Wl
open PySem PySem.Spec PyProof.Rows L2 Wy
end Wl


namespace Wl
open PySem PySem.Spec PyProof.Rows L2 Wy
noncomputable def W (ws:List Str):Nat:=(ws.map (·.length)).sum + ws.length
theorem gl_len:∀ {l:List (List Nat)},l≠[]->(gl l).length + 1=(l.map List.length).sum + l.length
  | [],h=>absurd rfl h
  | [x],_=>by simp [gl]
  | x::y::r,_=>by
    have ih:=gl_len (l:=y::r) (List.cons_ne_nil _ _)
    simp only [gl,List.length_append,List.length_cons,List.map_cons,List.sum_cons] at ih ⊢
    omega
theorem W_gl (ws:List Str):((ws.map λ w=>w.cps.toList).map List.length).sum + (ws.map λ w=>w.cps.toList).length=W ws:=by
  unfold W
  rw [List.map_map,List.length_map]
  rfl
theorem join_len {ws:List Str} (h:ws≠[]):(Txt.join blank ws).length + 1=W ws:=by
  rw [<- W_gl,<- gl_len (by simpa using h),<- join_gl]
  rfl
theorem len_W (ws:List Str):ws.length<=W ws:=by unfold W; omega
end Wl


namespace Wy
open PySem PySem.Spec PyProof.Rows L2
noncomputable def deadS:Sl->Sl
  | .own _=>.un
  | .par _ _=>.un
  | .dic _ _=>.un
  | x=>x
noncomputable def dead (Γ:Ga):Ga:=Γ.map deadS
section
variable {K:PySem.W.Frag} {H₀ G₀ H G H' G':Hp} {Γ:Ga} {σ:L2.St}
theorem dead_set {i:Nat} {x:Sl} {ys:List D} (h:Γ[i]?=some x) (hm:x.mu=true):dead (Γ.set i (x.put ys))=dead Γ:=by
  unfold dead
  rw [List.map_set]
  have e:deadS (x.put ys)=.un:=by cases x <;> first | rfl | cases hm
  have e2:deadS x=.un:=by cases x <;> first | rfl | cases hm
  rw [e,<- e2]
  apply List.ext_getElem?
  intro j
  rw [List.getElem?_set]
  split
  · rename_i q
    subst q
    split
    · rw [List.getElem?_map,h]; rfl
    · rename_i q; rw [List.getElem?_map,List.getElem?_eq_none (by simpa using q)]; rfl
  · rfl
end
noncomputable def exM (K:PySem.W.Frag) (W:XP) (H₀ G₀:Hp) (Γ:Ga) (σ:L2.St):Str->Prop:=λ c=>∀ H' G',Rep K H₀ G₀ (dead Γ) σ H' G'->W c σ H' G'
noncomputable def TellsM (K:PySem.W.Frag) (W:XP) (t:TE) (f:Ga->R (D×Ga)):Prop :=
  ∀ (H₀ G₀:Hp) (Γ:Ga) (σ:L2.St) (H G:Hp),Rep K H₀ G₀ Γ σ H G->∀ Q:VK,(f Γ).want (exM K W H₀ G₀ Γ σ) (λ p=>∀ v H' G',Rep K H₀ G₀ p.2 σ H' G'->Same G G'->Den K G' p.1 v->Q v H')->t σ H Q
noncomputable def EvM (X:Cx) (W:XP) (e:Expr) (f:Ga->R (D×Ga)):Prop:=∃ t,PE X e t/\(∀ Γ p,f Γ=.ok p->dead p.2=dead Γ)/\TellsM X.K W t f
section
variable {X:Cx} {W:XP} {e:Expr} {es:List Expr} {f:Ga->R D} {fm:Ga->R (D×Ga)} {fl:Ga->R (List D)} {fa:Ga->R (List D×Ga)} {pos pos' apos cpos p:Pos} {x:Str}
noncomputable def mPop (i:Nat):Ga->R (D×Ga):=λ Γ=>match Γ[i]? with
  | some x=>match x.cont with
    | some xs=>match xs.getLast? with
      | some d=>.ok (d,Γ.set i (x.put xs.dropLast))
      | none=>.no
    | none=>.no
  | none=>.no
theorem em_pop (i:Nat) (hN:X.N[i]?=some x:=by rfl) (hv:Vis X.env.scope x:=by first | exact Or.inl rfl | exact Or.inr (Or.inl rfl) | exact Or.inr (Or.inr rfl)) (hd:(x == ("__debug__":Str))=false:=by decide)
    (hcd:(x == ("__classdict__":Str))=false:=by decide) (hline:(apos.endLine == cpos.line)=true:=by rfl)
    (hbase:attributeBase (.Name x pos') "pop" X.env (eval (.Name x pos') X.env)=eval (.Name x pos') X.env:=by rfl) :
    EvM X W (.Call (.Attribute (.Name x pos') "pop" apos) [] [] cpos) (mPop i):=by
  refine ⟨_,pe_bm0 PySem.F.plainAttrs_list PySem.F.slot_list_pop PySem.F.type_list_pop mt_pop (pe_var hN hv hd hcd) hbase hline,λ Γ p e'=>?_,λ H₀ G₀ Γ σ H G R Q w=>?_⟩
  · unfold mPop at e'
    split at e'
    · rename_i y hy
      split at e'
      · rename_i xs hx
        split at e'
        · cases e'
          exact dead_set hy (Sl.mu_of hx)
        · cases e'
      · cases e'
    · cases e'
  · unfold mPop at w
    split at w
    · rename_i y hy
      split at w
      · rename_i zs hz
        split at w
        · rename_i d hlast
          obtain ⟨a,vs,s1,s2,s3,s4,s5⟩:=R.mo hy hz
          obtain ⟨xs,rfl⟩:=List.getLast?_eq_some_iff.mp hlast
          rw [List.dropLast_concat] at w
          have hl:=s5.length
          rw [List.length_append,List.length_singleton] at hl
          obtain ⟨v,hv1,hv2⟩:=s5.get (i:=xs.length) (d:=d) (by simp)
          have dl:=s5.dropLast
          rw [List.dropLast_concat] at dl
          refine ⟨_,s1,.inl ⟨rfl,vs,SqL.of s2⟩,a,vs,v,rfl,rfl,s2,by rw [<- hl]; exact hv1,?_⟩
          exact w _ _ G (R.mutG hy hz s1 dl) (Same.refl _) hv2
        · exact w.elim
      · exact w.elim
    · exact w.elim
noncomputable def insA {α:Type} (p:Nat) (x:α) (l:List α):List α:=l.take p++x::l.drop p
theorem insA_length {α:Type} {p:Nat} {x:α} {l:List α}:(insA p x l).length=l.length + 1:=by
  unfold insA
  simp only [List.length_append,List.length_cons,List.length_take,List.length_drop]
  omega
end
noncomputable def RS.ofM (x:R (D×Ga)) (Γ:Ga) (k:D×Ga->RS):RS:=match x with
  | .ok p=>k p
  | .ex c=>.ex c (dead Γ)
  | .no=>.no
@[simp] theorem RS.ofM_ok (p:D×Ga) (Γ:Ga) (k:D×Ga->RS):RS.ofM (.ok p) Γ k=k p:=nr rfl
theorem wSM {K:PySem.W.Frag} {W:XP} {H₀ G₀:Hp} {x:R (D×Ga)} {Γ:Ga} {k:D×Ga->RS} {D':Ends} {σ:L2.St} {P:D×Ga->Prop} (w:Lifts K W H₀ G₀ (RS.ofM x Γ k) D')
    (h:∀ a,Lifts K W H₀ G₀ (k a) D'->P a):x.want (exM K W H₀ G₀ Γ σ) P:=by
  cases x with
  | ok a=>exact h a w
  | ex c=>exact λ H' G' R=>w σ H' G' R
  | no=>exact w.elim
section
variable {X:Cx} {W:XP} {e c:Expr} {fm:Ga->R (D×Ga)} {pos pos' apos cpos:Pos} {x:Str}
noncomputable def sRetM (fm:Ga->R (D×Ga)):Ga->RS:=λ Γ=>.ofM (fm Γ) Γ λ p=>.rt p.1
theorem x_retM (h:EvM X W e fm):ExD X W (.Return (some e) pos) (sRetM fm):=by
  obtain ⟨t,p,_,q⟩:=h
  refine ⟨_,ps_ret p,λ H₀ G₀ Γ σ H G R D w=>?_⟩
  exact q _ _ _ _ _ _ R _ (wSM w λ d w v H' G' R1 g1 d1=>w v H' G' R1.ex d1)
end
inductive RM where
  | nx (Γ:Ga) | rt (d:D) (Γ:Ga) | ex (c:Str) (Γ:Ga) | no
section
variable {X:Cx} {W:XP} {st:Stmt} {rest sa sb:List Stmt} {T U:Ga->RM} {S:Ga->RS} {e c:Expr} {fm:Ga->R (D×Ga)} {g:Ga->R Bool} {pos:Pos}
end
noncomputable def SlL (K:PySem.W.Frag) (H₀ H G:Hp) (Γ:Ga) (σ:L2.St):Prop:=Γ.length=σ.length/\∀ (i:Nat) x,Γ[i]?=some x->SlOk K H₀ H G x σ[i]?
section
variable {K:PySem.W.Frag} {H₀ H G:Hp}
theorem SlL.append {Γ Γ':Ga} {σ σ':L2.St} (a:SlL K H₀ H G Γ σ) (b:SlL K H₀ H G Γ' σ'):SlL K H₀ H G (Γ++Γ') (σ++σ'):=by
  refine ⟨by rw [List.length_append,List.length_append,a.1,b.1],λ i x h=>?_⟩
  by_cases hi:i < Γ.length
  · rw [List.getElem?_append_left hi] at h
    rw [List.getElem?_append_left (by rw [<- a.1]; exact hi)]
    exact a.2 i x h
  · rw [List.getElem?_append_right (Nat.not_lt.mp hi)] at h
    rw [List.getElem?_append_right (by rw [<- a.1]; exact Nat.not_lt.mp hi),<- a.1]
    exact b.2 _ x h
theorem SlL.vals {ds:List D} {us:List V} (l:DenL K G ds us):SlL K H₀ H G (ds.map Sl.val) (us.map some):=by
  refine ⟨by rw [List.length_map,List.length_map,l.length],λ i x h=>?_⟩
  rw [List.getElem?_map] at h
  obtain ⟨d,e1,e2⟩:=Option.map_eq_some_iff.mp h
  subst e2
  obtain ⟨v,e3,e4⟩:=l.get e1
  exact ⟨v,by rw [List.getElem?_map,e3]; rfl,e4⟩
theorem SlL.uns (n:Nat):SlL K H₀ H G (List.replicate n .un) (List.replicate n none):=by
  refine ⟨by rw [List.length_replicate,List.length_replicate],λ i x h=>?_⟩
  obtain ⟨_,e⟩:=List.getElem?_eq_some_iff.mp h
  rw [List.getElem_replicate] at e
  subst e
  trivial
theorem SlL.one {x:Sl} {o:Option V} (h:SlOk K H₀ H G x (some o)):SlL K H₀ H G [x] [o]:=by
  refine ⟨rfl,λ i y e=>?_⟩
  cases i with
  | zero=>cases e; exact h
  | succ i=>cases e
end
noncomputable def beginX (N:List Str) (p:Nat) (x:Sl) (ds:List D):Ga:=(ds.take p).map Sl.val++x::((ds.drop p).map Sl.val++List.replicate (N.length - (ds.length + 1)) Sl.un)
theorem beginX_mu {N:List Str} {p:Nat} {x y:Sl} {ds:List D} {i:Nat} (h:(beginX N p x ds)[i]?=some y) (hm:y.mu=true):i=(ds.take p).length:=by
  have nv:∀ l:List D,∀ z∈l.map Sl.val,z.mu=false:=λ l z hz=>by
    obtain ⟨d,_,rfl⟩:=List.mem_map.mp hz
    rfl
  unfold beginX at h
  by_cases hi:i < (ds.take p).length
  · rw [List.getElem?_append_left (by simpa using hi)] at h
    have:=nv _ y (List.mem_of_getElem? h)
    rw [hm] at this; cases this
  · rw [List.getElem?_append_right (by simpa using hi)] at h
    rw [List.length_map] at h
    cases hk:i - (ds.take p).length with
    | zero=>omega
    | succ k =>
      rw [hk,List.getElem?_cons_succ] at h
      rcases List.mem_append.mp (List.mem_of_getElem? h) with z | z
      · have:=nv _ y z
        rw [hm] at this; cases this
      · rw [List.eq_of_mem_replicate z] at hm; cases hm
theorem rep_beginX {K:PySem.W.Frag} {H₀ H G:Hp} {N:List Str} {p:Nat} {x:Sl} {ds:List D} {us:List V} {v:V} (ex:Ext H₀ G H G) (tb:TabIn K H G) (l:DenL K G ds us) (h:SlOk K H₀ H G x (some (some v))):Rep K H₀ G (beginX N p x ds) (L2.start N (insA p v us)) H G:=by
  have e:L2.start N (insA p v us)=(us.take p).map some++(some v::((us.drop p).map some++List.replicate (N.length - (us.length + 1)) none)):=by
    unfold L2.start
    rw [insA_length]
    unfold insA
    simp
  rw [e,<- l.length]
  have s:=(SlL.vals (H₀:=H₀) (H:=H) (l.take p)).append ((SlL.one h).append ((SlL.vals (H₀:=H₀) (H:=H) (l.drop p)).append (SlL.uns (H₀:=H₀) (H:=H) (K:=K) (G:=G) (N.length - (ds.length + 1)))))
  exact ⟨ex,tb,s.1,s.2,λ i j y z a h1 h2 m1 m2 _ _=>(beginX_mu h1 m1).trans (beginX_mu h2 m2).symm⟩
section
variable {P:Program} {w:World} {K:PySem.W.Frag} {mg:Str->Option Value} {base:Heap}
end
end Wy


namespace Wy
open PySem PySem.Spec PyProof.Rows L2
noncomputable def spC (K:PySem.W.Frag) (n:Nat) (φ:Hp->Prop) (F:List D->R D):Sp:=λ vs H Q E=>∃ (G:Hp) (ds:List D),Same G H/\TabIn K H G/\φ G/\DenL K G ds vs/\ds.length=n /\
  (F ds).want (λ c=>∀ cls dx H' G',ClsIs K c cls->Ext H G H' G'->E cls dx H') (λ d=>∀ u H' G',Ext H G H' G'->Den K G' d u->Q u H')
noncomputable def spN (K:PySem.W.Frag) (n p:Nat) (fa:Addr) (φ:Hp->Prop) (F:List D->R D):Sp:=λ vs H Q E=>∃ (G:Hp) (ds:List D) (us:List V),vs=insA p (.ref fa) us/\Same G H/\TabIn K H G/\φ G/\DenL K G ds us/\ds.length + 1=n /\
  (F ds).want (λ c=>∀ cls dx H' G',ClsIs K c cls->Ext H G H' G'->E cls dx H') (λ d=>∀ u H' G',Ext H G H' G'->Den K G' d u->Q u H')
noncomputable def callN (N:List Str) (p:Nat) (S:Ga->RS) (fa:Addr) (φ:Hp->Prop) (ds:List D):R D:=match S (beginX N p (.fn fa φ) ds) with
  | .rt d=>.ok d
  | .nx _=>.ok .non
  | .ex c _=>.ex c
  | _=>.no
noncomputable abbrev noPhi:Hp->Prop:=λ _=>True
noncomputable def par1 {α:Type} (g:Addr->(Hp->Prop)->R α):R α:=open Classical in if ∀ a φ,g a φ=g 0 noPhi then g 0 noPhi else .no
theorem par1_eq {α:Type} {g:Addr->(Hp->Prop)->R α} {r:R α} (h:∀ a φ,g a φ=r):par1 g=r:=by
  unfold par1
  rw [if_pos λ a φ=>(h a φ).trans (h 0 noPhi).symm]
  exact h 0 noPhi
theorem par1_want {α:Type} {g:Addr->(Hp->Prop)->R α} {E:Str->Prop} {P:α->Prop} (w:(par1 g).want E P) (a:Addr) (φ:Hp->Prop):(g a φ).want E P:=by
  unfold par1 at w
  split at w
  · rename_i h; rw [h a φ]; exact w
  · exact w.elim
theorem spN_par1 {K:PySem.W.Frag} {n p:Nat} {fa:Addr} {φ:Hp->Prop} {F:Addr->(Hp->Prop)->List D->R D} {vs:List V} {H:Hp} {Q:VK} {E:XK} (h:spN K n p fa φ (λ ds=>par1 λ a φ=>F a φ ds) vs H Q E):spN K n p fa φ (F fa φ) vs H Q E:=by
  obtain ⟨G,ds,us,q1,g,t,de,l,hl,q⟩:=h
  exact ⟨G,ds,us,q1,g,t,de,l,hl,par1_want q fa φ⟩
section
variable {P:Program} {w:World} {K:PySem.W.Frag} {mg:Str->Option Value} {base:Heap}
theorem fn_N1 {x qual:Str} {st:Stmt} {f fa:Addr} {fd:FuncData} {N ps:List Str} {k p:Nat} {S:Ga->RS} {φ:Hp->Prop} (hφ:∀ G1 G2,Same G1 G2->φ G1->φ G2) (Fn:Fun K x qual st f fd) (Sc:FnScope N ps (defScope st))
    (B:∀ (cdv:Value) (A:Around) (outer:List Env) (s:Shared) (H:Hp) (W:XP) (E:XK),Room k (A.deeper (envOfC qual (defScope st) s.heap.objs.size f cdv)) ->
      ExDs ((cxOf (CX1 P w) P w K mg base N qual (defScope st) f cdv A outer s H E).xw W) W (defBody st) S) :
    FnOk P w K mg base (CX1 P w) (k + 1) f fd ps (spN K ps.length p fa φ λ ds=>callN N p S fa φ ds):=by
  obtain ⟨oc,od,kV,doc,pm,an,cdv,ct,osl,rfl,lk,hcd⟩:=Fn.ex
  refine fn_of lk hcd Sc (λ vs H Q E h=>?_) λ A outer s H vs Q E hr h=>?_
  · obtain ⟨G,ds,us,rfl,_,_,_,l,hl,_⟩:=h
    rw [insA_length,<- l.length]; exact hl
  · obtain ⟨G,ds,us,rfl,g,tb,de,l,hl,q⟩:=h
    obtain ⟨t,pt,hd⟩:=B cdv A outer s H (λ c _ H' G'=>Ext H G H' G'/\∀ cls,ClsIs K c cls->E cls none H') E hr
    refine ⟨t,pss_wish pt ?_,hd H G _ _ H G (rep_beginX (x:=.fn fa φ) (.refl g) tb l ⟨rfl,de,hφ⟩) _ ?_⟩
    · rintro e s' ⟨ea,σ,H',G',c,C,rfl,I,hc,⟨_,hw⟩,x⟩
      have Dc:DefCx (cxOf (CX1 P w) P w K mg base N qual (defScope st) f cdv A outer s H E):=⟨rfl,rfl,rfl⟩
      show wpAny _ _ (leaving _ (.ref ea)) _ _ s'
      unfold leaving
      refine wpAny_bind (note_ok (X:=cxOf (CX1 P w) P w K mg base N qual (defScope st) f cdv A outer s H E) Dc I x λ s1 I1 x1=>?_)
      refine flight_ok (X:=cxOf (CX1 P w) P w K mg base N qual (defScope st) f cdv A outer s H E) (o:=none) I1 x1 rfl λ s2 I2 x2=>?_
      have young:∀ b,Fp (cxOf (CX1 P w) P w K mg base N qual (defScope st) f cdv A outer s H E) [] H' b->s.heap.get? b=none/\H' b=none:=λ b hb=>⟨hb.new,hb.fr⟩
      exact ⟨ea,C,H',rfl,I2.os,I2.bare,I2.base,I2.hok,hw _ ⟨C,rfl,hc⟩,x2.at young (.inl rfl)⟩
    · unfold callN at q
      dsimp only at q
      cases hS:S (beginX N p (.fn fa φ) ds) with
      | rt d=>rw [hS] at q; exact λ v H' G' e dv=>q v H' G' e dv
      | nx Γ=>rw [hS] at q; exact λ σ H' G' R=>q _ H' G' R.ex den_non
      | bk Γ=>rw [hS] at q; exact q.elim
      | ct Γ=>rw [hS] at q; exact q.elim
      | ex c Γ=>rw [hS] at q; exact λ σ H' G' R=>⟨R.ex,λ cls hcls=>q cls none H' G' hcls R.ex⟩
      | no=>rw [hS] at q; exact q.elim
end
section
variable {X:Cx} {W:XP} {e:Expr} {es:List Expr} {f:Ga->R D} {fl:Ga->R (List D)} {pos p pn:Pos} {x y:Str}
noncomputable def eCallV (i:Nat) (fa:Addr) (φ:Hp->Prop) (F:List D->R D) (fl:Ga->R (List D)):Ga->R D:=open Classical in λ Γ=>match Γ[i]? with
  | some (.fn b ψ)=>if b=fa/\ψ=φ then (fl Γ).bind F else .no
  | _=>.no
theorem ev_callV {CX:CXT} {k i:Nat} {fa:Addr} {φ:Hp->Prop} {fd:FuncData} {ps:List Str} {F:List D->R D} (Fn:FnOk X.prog X.w X.K X.mg X.base CX k fa fd ps (spC X.K ps.length φ F)) (hx:PassW CX X W) (hr:Room k X.A) (hat:PySem.W.FnAt fa X.base)
    (hb:Binds X.K fd ps []) (ha:AvD X W (e::es) fl) (hn:(e::es).length=ps.length) (hN:X.N[i]?=some x:=by rfl) (hv:Vis X.env.scope x:=by first | exact Or.inl rfl | exact Or.inr (Or.inl rfl) | exact Or.inr (Or.inr rfl))
    (hdb:(x == ("__debug__":Str))=false:=by decide) (hcd:(x == ("__classdict__":Str))=false:=by decide)
    (he:starEach (e::es) X.env=(false,eval e X.env)::starEach es X.env:=by rfl) (hpl:(backTo pos (starEach es X.env)).any (·.1)=false:=by rfl) :
    EvD X W (.Call (.Name x p) (e::es) [] pos) (eCallV i fa φ F fl):=by
  obtain ⟨t,pt,hl,q⟩:=ha
  refine ⟨λ σ H Q=>σ[i]?=some (some (.ref fa))/\t σ H λ vs H1=>spC X.K ps.length φ F vs H1 Q (xkOf X.K W σ),λ pins s σ H Q I ⟨hs,h⟩=>?_,λ H₀ G₀ Γ σ H G R Q w=>?_⟩
  · have at_:∀ {s':Shared} {σ':L2.St} {H':Hp},Inv X pins σ' H' s'->PySem.W.FnAt fa s'.heap:=λ I'=>by
      obtain ⟨oc,od,fd',sl,z⟩:=hat
      exact ⟨oc,od,fd',sl,I'.bk _ _ z⟩
    refine wpAny_Call_Name_kw (thn (pe_var hN hv hdb hcd pins s σ H (λ v H'=>v=.ref fa/\H'=H) I ⟨_,hs,rfl,rfl⟩) λ u s0 ⟨v,H0,I0,rv,e1,e2⟩=>?_)
    subst e1 e2
    obtain rfl:u=Value.ref fa:=rv
    refine PySem.W.callWith_F (at_ I0) (thn (pt pos pins s0 σ _ _ I0 h) λ us s1 ⟨vs,H1,I1,r,q⟩=>⟨at_ I1,?_⟩) he hpl
    have hl:us.length=ps.length:=by rw [<- r.length]; exact Fn.len _ _ _ _ q
    have bb:=hb s1 us I1.kIn (by rw [List.append_nil]; exact hl)
    rw [List.append_nil] at bb
    refine wpAny_call (codeAny_mono (Fn.run X.A X.stack s1 H1 ⟨us,[]⟩ us vs Q _ hr I1.env0 bb r q) λ r s' hq=>?_)
    cases r with
    | error e=>exact hx pins σ H1 s1 e s' I1 hq
    | ok fl =>
      cases fl with
      | ret u=>exact I1.after hq
      | next=>exact False.elim hq
      | brk=>exact False.elim hq
      | cont=>exact False.elim hq
  · unfold eCallV at w
    split at w
    · rename_i b ψ hb'
      split at w
      · rename_i e1
        obtain ⟨rfl,rfl⟩:=e1
        obtain ⟨r1,r2,r3⟩:=R.fr i _ _ hb'
        refine ⟨r1,q _ _ _ _ _ _ R _ (wImp (wLen (hl Γ) (wStep w (λ _ h=>h) λ ds w=>w)) (λ _ h=>h) λ ds ⟨hd,w⟩ vs H1 G1 E1 d1=>?_)⟩
        exact ⟨G1,ds,E1.gh,E1.tab R.tab,r3 _ _ E1.gg r2,d1,hd.trans hn,wImp w (λ c h cls dx H' G' hc E2=>⟨c,G',hc,h H' G' (E1.trans E2)⟩) λ d w v H' G' E2 d2=>w v H' G' (E1.trans E2) d2⟩
      · exact w.elim
    · exact w.elim
end
end Wy


namespace Wy
open PySem PySem.Spec PyProof.Rows L2
theorem boot_reversed:bootBuiltins "reversed"=some (.type "reversed"):=by rfl
noncomputable def Itv (K:PySem.W.Frag) (a:Addr) (n:Nat):It :=
  ⟨λ i H=>i < n/\∃ xs,SqL K H a xs/\xs.length=n,λ i H x H'=>H'=H/\∀ xs,SqL K H a xs->xs[n - 1 - i]?=some x,λ i _=>n<=i⟩
theorem turn_rev {P:Program} {w:World} {K:PySem.W.Frag} {tg:Expr} (a it:Addr) (n:Nat):Turn P w K tg (Itv K a n) [it] it (λ i h=>i<=n/\h.IsRevIter it a ((n:Int) - 1 - (i:Int))) where
  mem:=by simp
  obj:=λ i h st b hb=>by
    have e:b=it:=by simpa using hb
    subst e
    obtain ⟨_,o,e,c,d⟩:=st
    exact ⟨o,e,λ v z=>by rw [d] at z; cases z⟩
  keep:=λ i h h' st k=>⟨st.1,st.2.at λ o e=>k it (by simp) o e⟩
  item:=by
    intro X hP hw hK hc i pins s σ H E I hf st hg
    subst hP hw hK
    obtain ⟨hi,xs,hq,hn⟩:=hg
    obtain ⟨its,rv,p,hz⟩:=I.list hq
    have hx:xs[n - 1 - i]?=some (xs[n - 1 - i]'(by omega)):=List.getElem?_eq_getElem (by omega)
    obtain ⟨u,hu,ru⟩:=rv.get hx
    obtain ⟨f0,f1,f2,f3,f4,f5⟩:=hf it (by simp)
    have e1:(n:Int) - 1 - (i:Int)=((n - 1 - i:Nat):Int):=by omega
    have hit:=st.2
    rw [e1] at hit
    refine wpAny_pyNext_rev_item hit p.isList (x:=u) (by simpa using hu) λ h' st' sb=>?_
    have e2:((n - 1 - i:Nat):Int) - 1=(n:Int) - 1 - ((i + 1:Nat):Int):=by omega
    rw [e2] at st'
    have I1:Inv X pins σ H { s with heap:=h' }:=I.turned (t':=s.toks) (λ b o hb e=>(sb.2 b hb).trans e) f0 f1 f3 f4 f5
    obtain ⟨o,e,c,d⟩:=id st'
    exact ⟨u,rfl,go_of (s:={ s with heap:=h' }) e c d (by decide) ⟨_,H,I1,ru,⟨rfl,λ ys hy=>by rw [I.list_inj hy hq]; exact hx⟩,⟨hi,st'⟩,λ b hb=>(hf b hb).1⟩⟩
  done:=by
    intro X hP hw hK hc i pins s σ H E I hf st hg
    subst hP hw hK
    obtain ⟨f0,f1,f2,f3,f4,f5⟩:=hf it (by simp)
    have hi:i=n:=Nat.le_antisymm st.1 hg
    have e1:(n:Int) - 1 - (i:Int)=-1:=by omega
    have hit:=st.2
    rw [e1] at hit
    exact wpAny_pyNext_rev_end (I.ok.hd hc) hit λ h' eb=>⟨rfl,I.turned (t':=s.toks) (λ b o hb e=>eb b o hb e) f0 f1 f3 f4 f5⟩
  self:=λ _ _ _ _ _ st h=>wpAny_pyIter_revIter st.2 h
section
variable {X:Cx} {W:XP} {tg e:Expr} {fs:Ga->R (Bool×List D)} {f:Ga->R D} {fl:Ga->R (List D)} {pos p:Pos}
noncomputable def iRevT (K:PySem.W.Frag) (tl:TA):TI:=λ σ H R=>tl σ H λ vs H1=>∃ a xs,vs=[.ref a]/\SqL K H1 a xs/\R (Itv K a xs.length) H1
theorem pi_rev {tl:TA} (hg:Gl X "reversed") (hm:X.mg "reversed"=none) (hl:PA X [e] tl) (hse:starEach [e] X.env=[(false,eval e X.env)]:=by rfl):PI X tg (.Call (.Name "reversed" p) [e] [] pos) (iRevT X.K tl):=by
  intro pins s σ H R I h
  refine wpAny_Call_Name_kw (ld_blt I hg hm boot_reversed ?_)
  refine PyProof.Rows.callWith_type1 (thn (hl pos pins s σ H _ I h) λ us s1 ⟨vs,H1,I1,r,a,xs,e1,hq,q⟩=>?_) hse rfl
  subst e1
  obtain ⟨u,rfl,ru⟩:=r.one
  obtain rfl:u=Value.ref a:=ru
  obtain ⟨its,rv,p,hz⟩:=I1.list hq
  refine call_reversed_list p.isList ?_
  have hn:its.toArray.size=xs.length:=by rw [List.size_toArray]; exact rv.length.symm
  rw [hn]
  refine wpAny_pyIter_revIter (l:=a) (i:=(xs.length:Int) - 1) ⟨_,Heap.get?_push_size _ rfl,rfl,rfl⟩ ?_
  refine ⟨s1.heap.objs.size,[s1.heap.objs.size],_,_,H1,rfl,I1.kept (t':=s1.toks) (λ b o e=>Heap.get?_push_of_some _ e),turn_rev a _ xs.length,⟨Nat.zero_le _,_,Heap.get?_push_size _ rfl,rfl,?_⟩,λ b hb=>?_,q⟩
  · show Data.fields _=_
    simp
  · have e:b=s1.heap.objs.size:=by simpa using hb
    subst e
    exact I1.fpOk (Nat.le_refl _) (I1.hok.fresh (Nat.le_refl _))
noncomputable def iRev (f:Ga->R D):Ga->R (List D):=λ Γ=>(f Γ).bind λ d=>(R.ofO (asL d)).bind λ ds=>.ok ds.reverse
theorem it_rev (hg:Gl X "reversed") (hm:X.mg "reversed"=none) (he:EvD X W e f) (hse:starEach [e] X.env=[(false,eval e X.env)]:=by rfl):ItD X W tg (.Call (.Name "reversed" p) [e] [] pos) (iRev f):=by
  obtain ⟨t,pt,q⟩:=he
  refine ⟨_,pi_rev hg hm (pa_cons pt pa_nil hse) hse,λ H₀ G₀ Γ σ H G R Q w=>?_⟩
  refine q _ _ _ _ _ _ R _ (wStep w (λ _ h=>h) λ d w v H' G' E1 d1=>?_)
  obtain ⟨ds,e2,k⟩:=wOfOb w
  cases asL_eq e2
  obtain ⟨a,vs,rfl,s,l⟩:=den_lst.mp d1
  have hl:=l.length
  refine ⟨a,vs,rfl,E1.gh.seq s,k _ H' G' E1 λ i H2 G2 g2 h2=>⟨λ d hd=>?_,λ hi=>?_⟩⟩
  · have hi:i < ds.length:=by
      have:=(List.getElem?_eq_some_iff.mp hd).1
      rwa [List.length_reverse] at this
    rw [List.getElem?_reverse hi] at hd
    obtain ⟨v,hv,dv⟩:=l.get hd
    refine ⟨⟨by rw [<- hl]; exact hi,vs,(g2.trans h2).seq s,rfl⟩,λ x H3 ⟨z,y⟩=>?_⟩
    subst z
    have q:=y vs ((g2.trans h2).seq s)
    rw [<- hl] at q
    rw [hv] at q
    cases q
    exact ⟨G2,.refl h2,dv.up g2⟩
  · rw [List.length_reverse] at hi
    show vs.length<=i
    rw [<- hl]; exact hi
end
end Wy


namespace Wy
open PySem PySem.Spec PyProof.Rows L2
noncomputable def compM (f:Ga->R (D×Ga)):List D->List D->Ga->R (List D×Ga)
  | [],acc,Γ=>.ok (acc,Γ)
  | d::ds,acc,Γ=>(f (.val d::.own acc::Γ)).calm.bind λ p=>match p.2 with
    | _::.own acc'::Γ1=>if acc'.length < 16000000 then compM f ds (acc'++[p.1]) Γ1 else .no
    | _=>.no
section
variable {K:PySem.W.Frag} {H₀ G₀ H G:Hp} {Γ:Ga} {σ:L2.St}
theorem Rep.tail {x:Sl} {o:Option V} (R:Rep K H₀ G₀ (x::Γ) (o::σ) H G):Rep K H₀ G₀ Γ σ H G :=
  ⟨R.ex,R.tab,by have:=R.ln; simpa using this,λ i y h=>R.all (i + 1) y (by simpa using h),λ i j y z a h1 h2 m1 m2 s1 s2=>by
    have:=R.di (i + 1) (j + 1) y z a (by simpa using h1) (by simpa using h2) m1 m2 (by simpa using s1) (by simpa using s2)
    omega⟩
end
section
variable {X:Cx} {pins:List (Addr×Obj)} {σ:L2.St} {H H₀ G₀ G:Hp} {Γ:Ga} {s:Shared} {scope:Scope} {cl:List (Str×Addr)} {x:Str} {px pos:Pos} {fp:List Addr} {elt iter:Expr} {f:Ga->R (D×Ga)}
theorem comp_coreM {J:It} {it:Addr} {tn:Nat->Heap->Prop} {ds outs:List D} {Γe:Ga} {E:Value->Shared->Prop} (B:BlkOk X scope cl x) (hcalm:X.calm=true) (I:Inv X pins σ H s) (R:Rep X.K H₀ G₀ Γ σ H G)
    (T:Turn X.prog X.w X.K (.Name x px) J fp it tn) (st:tn 0 s.heap) (hf:∀ b∈fp,FpOk X pins H b) (Y:Yields X.K J G ds)
    (hE:∀ C,EvM (blk X scope cl C x s H fp) XP0 elt f) (hc:compM f ds [] Γ=.ok (outs,Γe)) (hlen:ds.length < 16000000)
    {RR:Value->Addr->Result->Shared->Prop}
    (hRR:∀ Dd C s' H' G' o sl m,s'.os=s.os->AllBare s'.gens->Un (frs X.stack) fp H H' s.heap s'.heap->HOk X.prog X.w H' s'.heap->s.heap.objs.size<=C->H' C=none->s'.heap.Ns C m ->
      Same G G'->Rep X.K H₀ G₀ (sl::.own outs::Γe) (o::some (V.ref Dd)::σ) H' G'->RR (.ref Dd) C (.ok .next) s') :
    wpAny (model X.prog X.w) X.A (newList []) (λ acc s₃=>wpAny (model X.prog X.w) X.A (newFunctionEnv scope X.env.globals cl [] X.env.qual none .none (some X.env)) (λ cenv s₄ =>
      codeAny (model X.prog X.w) X.A (.compStart (.ListComp elt [⟨.Name x px,iter,[],0⟩] scope pos) 0 (.ref it) acc { cenv with scope:=relabel scope X.env }) (RR acc cenv.locals) s₄) E s₃) E s:=by
  have hfp:∀ b∈fp,b < s.heap.objs.size:=λ b hb=>by
    obtain ⟨o,e,_⟩:=T.obj 0 _ st b hb
    exact Heap.lt_size e
  refine wpAny_newObj_type (wpAny_newFunctionEnv B.cells (by intro y hy; simp at hy) (λ h₁ hns₁ hsb₁=>?_) B.kind)
  dsimp only at hns₁ hsb₁ ⊢
  generalize hH2:s.heap.push { cls:=.type "list",dict:=none,data:=.seq ([]:List Value).toArray }=H2 at hns₁ hsb₁ ⊢
  have hC:H2.objs.size=s.heap.objs.size + 1:=by rw [<- hH2,Heap.size_push]
  have hDC:s.heap.objs.size≠H2.objs.size:=by rw [hC]; exact Nat.ne_of_lt (Nat.lt_succ_self _)
  have hCle:s.heap.objs.size<=H2.objs.size:=by rw [hC]; exact Nat.le_succ _
  have old:∀ b o,s.heap.get? b=some o->h₁.get? b=some o:=λ b o e=>hsb₁.extBut b o (by rw [hC]; exact Nat.ne_of_lt (Nat.lt_succ_of_lt (Heap.lt_size e))) (Heap.get?_push_of_some _ (hH2 ▸ Heap.get?_push_of_some _ e))
  have hacc:h₁.get? s.heap.objs.size=some { cls:=.type "list",data:=.seq #[] 0 }:=hsb₁.extBut _ _ hDC (Heap.get?_push_of_some _ (hH2 ▸ Heap.get?_push_size _ rfl))
  have I0:=blk_inv (tk:=s.toks + ([]:List (Str×Value)).length) B I hf hfp hCle (Nat.le_refl _) hDC hns₁ hacc old
  have hp:H s.heap.objs.size=none:=I.fresh
  have E0:Ext H G (upd H s.heap.objs.size (.lst [])) G:=.own R.gh hp _
  have R0:Rep X.K H₀ G₀ (.un::.own []::Γ) (none::some (V.ref s.heap.objs.size)::σ) (upd H s.heap.objs.size (.lst [])) G:=by
    have r1:=((R.after E0).consUn (some (V.ref s.heap.objs.size)))
    have r2:=r1.setO 0 (xs:=[]) (a:=s.heap.objs.size) (vs:=[]) upd_same (R.ex.hh.free hp) (R.gh.free hp) (denL_nil.mpr rfl) (λ j ys hj hy hm hs=>?_)
    · exact r2.consUn none
    · cases j with
      | zero=>exact hj rfl
      | succ j =>
        obtain ⟨a,us,s1,s2,_⟩:=R.at (i:=j) (x:=ys) (by simpa using hy) hm
        have hs':σ[j]?=some (some (V.ref s.heap.objs.size)):=by simpa using hs
        rw [hs'] at s1
        cases s1
        rw [hp] at s2
        cases s2
  generalize hX:blk X scope cl H2.objs.size x s H fp=X' at I0
  have eK:X'.K=X.K:=by rw [<- hX]; rfl
  have eP:X'.prog=X.prog:=by rw [<- hX]; rfl
  have eW:X'.w=X.w:=by rw [<- hX]; rfl
  have eA:X'.A=X.A:=by rw [<- hX]; rfl
  have eE:X'.env=compEnvC scope cl H2.objs.size X.env:=by rw [<- hX]; rfl
  have eX:X'.xe=λ _ _=>False:=by rw [<- hX]; rfl
  have eN:X'.N=blkN x X.N:=by rw [<- hX]; rfl
  have eF:X'.fs=frs X.stack:=by rw [<- hX]; rfl
  have eCa:X'.calm=true:=by rw [<- hX]; exact hcalm
  have hE':EvM X' XP0 elt f:=hX ▸ hE _
  have fpok:∀ {H':Hp},(∀ b∈fp,H' b=none)->∀ b∈fp,FpOk X' [] H' b:=λ hn b hb=>by
    refine ⟨hn b hb,?_,?_,.inl (by rw [<- hX]; exact hb),?_,λ p hp=>by rw [<- hX] at hp; exact nomatch hp⟩
    · rw [<- hX]; exact Nat.ne_of_lt (Nat.lt_of_lt_of_le (hfp b hb) hCle)
    · rw [eF]
      intro z
      rcases List.mem_cons.mp (I.stkSub b z) with e | e
      · exact (hf b hb).2.1 e
      · exact (hf b hb).2.2.1 e
    · rw [eE]; exact λ y c' h=>(hf b hb).2.2.2.2.1 y c' (B.cl1 y c' h)
  obtain ⟨te,pe,_,qe⟩:=hE'
  have pg:PG X' (.Name x px) (gName 0):=pg_name (by rw [eN]; exact B.nd) (by rw [eN]; rfl) (by rw [eE]; exact .inl (lookup_relabel_local B.var)) (by rw [eE]; exact .inr (lookup_relabel_local B.var))
  have loop:∀ s₃:Shared,s₃={ s with heap:=h₁,toks:=s.toks + ([]:List (Str×Value)).length } ->
      codeAny (model X.prog X.w) X.A (.compLoop (.ListComp elt [⟨.Name x px,iter,[],0⟩] scope pos) 0 (.ref it) (.ref s.heap.objs.size) (compEnvC scope cl H2.objs.size X.env)) (RR (.ref s.heap.objs.size) H2.objs.size) s₃:=by
    rintro s₃ rfl
    refine compLoop_own (λ n s'=>∃ (k:Nat) (sl:Sl) (o:Option V) (H' G':Hp) (dn:List D) (Γ':Ga),Inv X' [] (o::some (V.ref s.heap.objs.size)::σ) H' s'/\tn k s'.heap/\(∀ b∈fp,H' b=none) /\
      Rep X.K H₀ G₀ (sl::.own dn::Γ') (o::some (V.ref s.heap.objs.size)::σ) H' G'/\Same G G'/\compM f (ds.drop k) dn Γ'=.ok (outs,Γe)/\k<=ds.length/\n + k=ds.length) ?_ ds.length
      ⟨0,.un,none,_,G,[],Γ,I0,T.keep _ _ _ st (λ b hb o e=>old b o e),λ b hb=>by
        rw [upd_ne (Nat.ne_of_lt (hfp b hb))]; exact (hf b hb).1,R0,Same.refl _,hc,Nat.zero_le _,rfl⟩
    rintro n s' ⟨k,sl,o,H',G',dn,Γ',I',st',fr',R',g',hc',hkl,hn⟩
    have Yk:=Y k H' G' g' R'.gh
    by_cases hk:k < ds.length
    · obtain ⟨d,hd,hdr⟩:=drop_at hk
      obtain ⟨go,yl⟩:=Yk.1 d hd
      rw [hdr] at hc'
      have it1:=T.item X' eP eW eK eCa k [] s' _ H' (λ _ _=>False) I' (fpok fr') st' go
      rw [eA] at it1
      refine wpAny_mono it1 (λ r s1 ⟨u,hr,h4⟩=>?_) λ _ _ z=>z
      subst hr
      refine wpAny_mono h4 (λ _ s5 ⟨xv,H5,I5,r5,y5,st5,fr5⟩=>?_) λ _ _ z=>z
      obtain ⟨G5,E5,d5⟩:=yl xv H5 y5
      have I5':=I5.pinned (fpok fr5) (T.obj _ _ st5)
      have R5:=R'.after E5
      have asg:=pg _ s5 _ H5 xv u (λ σ' H'=>σ'=some xv::some (V.ref s.heap.objs.size)::σ/\H'=H5) I5' r5 ⟨rfl,rfl⟩
      rw [eP,eW,eA,eE,eX] at asg
      refine wpAny_mono asg (λ _ s6 ⟨σ6,H6,I6,q6,q6'⟩=>?_) λ _ _ z=>z
      subst q6 q6'
      have R6:Rep X.K H₀ G₀ (.val d::.own dn::Γ') (some xv::some (V.ref s.heap.objs.size)::σ) H6 G5:=R5.setV 0 d5
      unfold compM at hc'
      obtain ⟨p,ey,hc'⟩:=bind_ok' hc'
      have ey:=calm_ok ey
      refine wpAny_tests_nil ?_
      rw [if_pos rfl]
      have R6':Rep X'.K H₀ G₀ (.val d::.own dn::Γ') (some xv::some (V.ref s.heap.objs.size)::σ) H6 G5:=by rw [eK]; exact R6
      have ev:=pe _ s6 _ H6 (λ v H8=>∃ G8,Rep X'.K H₀ G₀ p.2 (some xv::some (V.ref s.heap.objs.size)::σ) H8 G8/\Same G5 G8/\Den X'.K G8 p.1 v) I6 (qe _ _ _ _ _ _ R6' _ (by rw [ey]; exact λ v H8 G8 R8 g8 d8=>⟨G8,R8,g8,d8⟩))
      rw [eP,eW,eA,eE,eX] at ev
      refine wpAny_mono ev (λ yv s8 ⟨v8,H8,I8,r8,G8,R8,g8,d8⟩=>?_) λ _ _ z=>z
      rw [eK] at d8 R8
      obtain ⟨y,Γ2⟩:=p
      dsimp only at R8 d8 hc'
      split at hc'
      · rename_i sl2 acc' Γ3 _ _
        split at hc'
        · rename_i hz
          obtain ⟨a,vs,q1,q2,q3,q4,q5⟩:=R8.ow 1 acc' rfl
          cases q1
          have ap:=mt_append (X:=X') _ s8 _ H8 (.ref s.heap.objs.size) [v8] _ _ (λ v H9=>v=.non/\H9=upd H8 s.heap.objs.size (.lst (vs++[v8]))) I8 rfl (.cons r8 .nil) ⟨_,vs,v8,rfl,rfl,q2,by rw [<- q5.length]; exact lt24 hz,rfl,rfl⟩
          rw [eP,eW,eA,eX] at ap
          refine wpAny_mono ap (λ _ s9 ⟨_,H9,I9,_,_,q9⟩=>?_) λ _ _ z=>z
          subst q9
          have R9:=R8.mut (i:=1) rfl rfl (q5.append (.one d8))
          refine ⟨n - 1,by omega,k + 1,_,_,_,G8,acc'++[y],Γ3,I9.unpinned,T.keep _ _ _ st5 λ b hb o e=>(I9.pin (b,o) (List.mem_append_right _ (List.mem_append_right _ (mem_pinsAt hb e)))).1,λ b hb=>?_,R9,g'.trans (E5.gg.trans g8),hc',by omega,by omega⟩
          obtain ⟨o,e,_⟩:=T.obj _ _ st5 b hb
          exact (I9.pin (b,o) (List.mem_append_right _ (List.mem_append_right _ (mem_pinsAt hb e)))).2.1
        · cases hc'
      · cases hc'
    · have z:ds.drop k=[]:=List.drop_eq_nil_of_le (by omega)
      rw [z] at hc'
      cases hc'
      have dn1:=T.done X' eP eW eK eCa k [] s' _ H' (λ _ _=>False) I' (fpok fr') st' (Yk.2 (by omega))
      rw [eA] at dn1
      refine wpAny_mono dn1 (λ r s1 ⟨hr,I1⟩=>?_) λ _ _ z=>z
      subst hr
      obtain ⟨m,hm,_⟩:=I1.loc
      have base:=I1.base
      rw [eF] at base
      refine hRR s.heap.objs.size H2.objs.size s1 H' G' o sl m ?_ I1.bare ?_ ?_ hCle ?_ ?_ g' R'
      · have:=I1.os; rw [<- hX] at this; exact this
      · rw [<- hX] at base; exact base
      · have:=I1.hok; rw [eP,eW] at this; exact this
      · have:=I1.free; rw [eE] at this; exact this
      · rw [eE] at hm; exact hm
  exact codeAny_compStart_list (loop _ rfl) (T.self _ 0 _ _ _ (T.keep _ _ _ st λ b hb o e=>old b o e) (loop _ rfl))
end
section
variable {X:Cx} {scope:Scope} {cl:List (Str×Addr)} {x y:Str} {px py pos spos:Pos} {elt iter:Expr} {f:Ga->R (D×Ga)} {fl:Ga->R (List D)}
noncomputable def sSetCM (i:Nat) (fl:Ga->R (List D)) (f:Ga->R (D×Ga)):Ga->RS:=λ Γ=>.of (fl Γ) Γ λ ds=>if ds.length < 16000000 then (match compM f ds [] Γ with
  | .ok p=>.nx (p.2.set i (.own p.1))
  | _=>.no) else .no
theorem x_setCompM {W:XP} (i:Nat) (B:BlkOk X scope cl x) (hcalm:X.calm=true) (hi:ItD X W (.Name x px) iter fl) (hE:∀ C s H fp,EvM (blk X scope cl C x s H fp) XP0 elt f)
    (hN:X.N.Nodup) (hy:X.N[i]?=some y:=by rfl) (hx:Loc X.env.scope y:=by first | exact Or.inl rfl | exact Or.inr rfl)
    (hsw:swapsWith (.ListComp elt [⟨.Name x px,iter,[],0⟩] scope pos) (some (.Name y py)) spos.line X.env=pure true:=by rfl)
    (hf':X.fn y=true∨X.env.scope.names.lookup y=some .local:=by first | exact .inl rfl | exact .inr rfl | assumption)
    (hs:∀ x,foldedSetIterable iter X.env x=pure x:=by intro _; rfl):ExD X W (.Assign [.Name y py] (.ListComp elt [⟨.Name x px,iter,[],0⟩] scope pos) spos) (sSetCM i fl f):=by
  obtain ⟨wi,pI,qI⟩:=hi
  refine ⟨λ DD σ H=>∃ (H₀ G₀:Hp) (Γ:Ga) (G:Hp),Rep X.K H₀ G₀ Γ σ H G/\(fl Γ).want (exAt W σ H G) λ ds=>∃ outs Γe,ds.length < 16000000/\compM f ds [] Γ=.ok (outs,Γe)/\∀ σ' H' G',Rep X.K H₀ G₀ (Γe.set i (.own outs)) σ' H' G'->DD.nx σ' H',?_,?_⟩
  · rintro pins s σ H D I ⟨H₀,G₀,Γ,G,R,w⟩
    rw [exec_Assign_Name_used _ _ _ _ hsw]
    refine wpAny_bind (wpAny_standAt (wpAny_bind ?_))
    show wpAny _ X.A (do let _ <- comprehension (.ListComp elt [⟨.Name x px,iter,[],0⟩] scope pos) scope X.env _ (newList []) false (eval iter X.env) (some (assign (.Name y py) X.env))) _ _ s
    refine wpAny_bind (wpAny_mono (wpAny_comprehension_free (use:=some (assign (.Name y py) X.env)) (Q:=λ _ s'=>SP X pins D .next s') rfl hs B.clos B.kind B.names ?_) (λ _ s' hq=>wpAny_pure (wpAny_pure hq)) λ _ _ e=>e)
    have h1:=pI pins s σ H (λ J H'=>∃ G' ds outs Γe,Ext H G H' G'/\Yields X.K J G' ds/\ds.length < 16000000/\compM f ds [] Γ=.ok (outs,Γe)/\∀ σ' H' G',Rep X.K H₀ G₀ (Γe.set i (.own outs)) σ' H' G'->D.nx σ' H') I
      (qI _ _ _ _ _ _ R _ (wImp w (λ _ h=>h) λ ds ⟨outs,Γe,hl,e2,k⟩ J H' G' E1 y=>⟨G',ds,outs,Γe,E1,y,hl,e2,k⟩))
    refine thn h1 λ xv s1 h1=>thn h1 λ itv s2 ⟨it,fp,tn,J,H2,e,I2,T,st,hf,G2,ds,outs,Γe,E2,y2,hl,e2,k⟩=>?_
    subst e
    refine comp_coreM (RR:=λ acc C=>compPost (model X.prog X.w) X.A X.xe (some (assign (.Name y py) X.env)) (λ _ s'=>SP X pins D .next s') acc C) B hcalm I2 (R.after E2) T st hf y2 (λ C=>hE _ _ _ _) e2 hl ?_
    intro Dd C s' H' G' o sl m os bare un hok hC hCn hns g' R'
    have I3:=after_block I2 hf os bare un hok
    show wpAny _ X.A (assign (.Name y py) X.env (.ref Dd)) _ _ _
    refine wpAny_assign_Name (store_ok2 (v:=.ref Dd) I3 hN hy hx rfl (λ s4 I4 ⟨a,hsa,ha⟩=>?_) hf')
    have nC:C≠a:=λ z=>by
      subst z
      rcases ha with z | z
      · exact absurd (Nat.lt_of_lt_of_le I2.lt (by rw [<- z]; exact hC)) (Nat.lt_irrefl _)
      · obtain ⟨v,q⟩:=I2.cell y _ z
        exact absurd (Nat.lt_of_lt_of_le q.lt hC) (Nat.lt_irrefl _)
    refine ⟨m,hns.sameBut hsa nC,λ h'' hsb=>?_⟩
    refine ⟨_,H',turned_C I2 I4 hC hCn hsb,k _ H' G' ?_⟩
    obtain ⟨a',vs,q1,q2,q3,q4,q5⟩:=R'.ow 1 outs rfl
    cases q1
    refine R'.tail.tail.setO i q2 q3 q4 q5 λ j z hj hz hm hs=>?_
    have:=R'.di 1 (j + 2) _ _ Dd rfl (by simpa using hz) rfl hm rfl (by simpa using hs)
    omega
  · intro H₀ G₀ Γ σ H G R D w
    refine ⟨H₀,G₀,Γ,G,R,wS R w λ ds w=>?_⟩
    split at w
    · rename_i hl
      cases hcm:compM f ds [] Γ with
      | ok p=>rw [hcm] at w; exact ⟨p.1,p.2,hl,rfl,w⟩
      | ex c=>rw [hcm] at w; exact w.elim
      | no=>rw [hcm] at w; exact w.elim
    · exact w.elim
end
end Wy


namespace PySem.SeqAt
open PySem PySem.AutoSeq1 PySem.MeetsSeq PySem.MeetsSeq2 PySem.MeetsSeq3
end PySem.SeqAt
namespace Wy
open PySem PySem.Spec PyProof.Rows L2
section
variable {X:Cx}
variable {W:XP} {o e:Expr} {fs:Ga->R (Bool×List D)} {fe:Ga->R D} {apos cpos:Pos}
end
end Wy


namespace Wy
open PySem PySem.Spec PyProof.Rows L2
section
variable {X:Cx} {W:XP} {e:Expr} {fe:Ga->R D} {x:Str} {kvs:List (Str×Str)} {pn pos:Pos}
end
end Wy


namespace Wy
open PySem PySem.Spec PyProof.Rows L2
section
variable {prog:Program} {w:World} {A:Around} {R:Result->Shared->Prop} {I:Addr} {fp wr:List Addr} {n:Nat} {P:Nat->Value->Prop} {St:Nat->Heap->Prop}
end
section
variable {prog:Program} {w:World} {A:Around} {E:Value->Shared->Prop} {s:Shared}
end
section
variable {X:Cx} {W:XP} {e e2:Expr} {fs:Ga->R (Bool×List D)} {fd:Ga->R D} {p pos kpos:Pos}
end
end Wy


namespace Wy
open PySem PySem.Spec PyProof.Rows L2
noncomputable abbrev lamEnv (q:Str) (scope:Scope) (L fa c:Addr) (cl:List (Str×Addr)):Env :=
  { scope:=scope,locals:=L,globals:=mainGlobals,cells:=cl,qual:=q++".<locals>.",func:=some fa,code:=.ref c,frame:=some L,builtins:=builtinsNs }
noncomputable abbrev lamFn (nm qual:Str) (params:Arguments) (body:Expr) (scope:Scope) (cl:List (Str×Addr)) (pm:Value) (c:Addr) (ct:Value):FuncData:=PySem.W.kla_fn nm qual params body scope cl pm (.ref c) ct
section
variable {prog:Program} {w:World} {A:Around} {R:Result->Shared->Prop} {s:Shared}
theorem call_lam {a c:Addr} {args:Args} {o:Obj} {fd:FuncData} {body:Expr} {q:Str} (room:A.depth < recursionLimit) (ho:s.heap.get? a=some o) (hd:o.data=.func fd) (hco:fd.scope.isCoroutine=false) (hge:fd.scope.isGenerator=false) (hb:fd.body=.expr body)
    (hc:fd.code=.ref c) (hq:CodeAt c q s.heap) (h:wpAny (model prog w) A.in1 (bindArgs fd args) (λ binds s1=>wpAny (model prog w) A.in1 (newFunctionEnv fd.scope fd.globals fd.closure binds (q++".<locals>.") (some a) (.ref c) none fd.builtins)
        (λ env s2=>s2.heap.NoLimit/\codeAny (model prog w) A (.expr body env) R s2) (λ e s'=>R (.error e) s') s1) (λ e s'=>R (.error e) s') s):codeAny (model prog w) A (.call (.ref a) args) R s:=by
  refine codeAny_of_tree ?_
  show wpAny _ A.in1 (callAny (.ref a) args) _ _ s
  simp only [callAny]
  refine wpAny_bind (wpAny_load ho ?_)
  obtain ⟨c2,oc,vs,tq,e1,hoc,hdc,hv⟩:=hq
  cases e1
  simp only [hd,callFunction,hco,hge,hb,hc]
  refine wpAny_bind (m:=field (.ref c) 1) (wpAny_field hoc hdc hv (wpAny_bind (wpAny_pure ?_)))
  exact wpAny_bind (thn h λ binds s1 h1=>wpAny_bind (thn h1 λ env s2 h2=>wpAny_bind (wpAny_enterFrame h2.1 room (wpAny_pure ⟨rfl,h2.2⟩))))
end
structure LamScope (ps:List Str) (y:Str) (sc:Scope):Prop where
  kind:sc.kind=.function
  co:sc.isCoroutine=false
  gen:sc.isGenerator=false
  nd:ps.Nodup
  par:∀ x∈ps,sc.names.lookup x=some .local
  ny:y∉ps
  free:sc.names.lookup y=some .free
  only:∀ n∈sc.names,n.2≠.cell/\(n.2=.free->n.1=y)
theorem lookup_zip {ps:List Str} {us:List Value}:∀ {i:Nat} {x:Str} {u:Value},ps.Nodup->ps[i]?=some x->us[i]?=some u->(ps.zip us).reverse.lookup x=some u:=by
  have key:∀ (l:List (Str×Value)) (x:Str) (u:Value),(x,u)∈l->(l.map (·.1)).Nodup->l.lookup x=some u:=by
    intro l
    induction l with
    | nil=>intro x u h; cases h
    | cons p l ih =>
      intro x u h nd
      rw [List.map_cons,List.nodup_cons] at nd
      rw [List.lookup_cons]
      rcases List.mem_cons.mp h with rfl | h
      · simp
      · have ne:(x == p.1)=false:=beq_eq_false_iff_ne.mpr λ z=>nd.1 (z ▸ List.mem_map_of_mem (f:=(·.1)) h)
        rw [ne]
        exact ih x u h nd.2
  intro i x u nd h1 h2
  refine key _ x u ?_ ?_
  · rw [List.mem_reverse]
    have:(ps.zip us)[i]?=some (x,u):=by rw [List.getElem?_zip_eq_some]; exact ⟨h1,h2⟩
    exact List.mem_of_getElem? this
  · rw [List.map_reverse]
    have sub:∀ (a:List Str) (b:List Value),((a.zip b).map (·.1)).Sublist a:=λ a=>by
      induction a with
      | nil=>intro b; simp
      | cons x a ih =>
        intro b
        cases b with
        | nil=>simp
        | cons z b=>simpa using ih b
    have:=sub ps us
    exact List.pairwise_reverse.mpr ((nd.sublist this).imp λ h=>Ne.symm h)
noncomputable def cxL (P:Program) (w:World) (K:PySem.W.Frag) (mg:Str->Option Value) (base:Heap) (N:List Str) (q:Str) (scope:Scope) (fa c:Addr) (cl:List (Str×Addr)) (A:Around) (outer:List Env) (s:Shared) (H:Hp) (E:XK):Cx where
  prog:=P
  w:=w
  K:=K
  mg:=mg
  base:=base
  A:=A.deeper (lamEnv q scope s.heap.objs.size fa c cl)
  N:=N
  s₀:=s
  H₀:=H
  env:=lamEnv q scope s.heap.objs.size fa c cl
  outer:=outer
  stack:=lamEnv q scope s.heap.objs.size fa c cl::outer
  ex:=[]
  calm:=true
  fn:=λ _=>false
  pn:=[]
  xe:=λ e s'=>wpAny (model P w) (A.deeper (lamEnv q scope s.heap.objs.size fa c cl)) (leaving (lamEnv q scope s.heap.objs.size fa c cl) e) (λ _ s''=>CX1 P w outer H s E e s'') (λ e' s''=>CX1 P w outer H s E e' s'') s'
section
variable {P:Program} {w:World} {K:PySem.W.Frag} {mg:Str->Option Value} {base:Heap}
theorem inv_lam {ps:List Str} {y q:Str} {scope:Scope} {fa c cy:Addr} {A:Around} {outer:List Env} {s:Shared} {H:Hp} {E:XK} {us:List Value} {vs:List V} {v:V} {u:Value} {h1:Heap} {tk:Nat}
    (S:LamScope ps y scope) (hd:A.handled=none) (e0:Env0 P w K mg base A outer s H) (hl:vs.length=ps.length) (r:Vals vs us) (hcy:base.IsCell cy (some u)) (rv:RelV v u)
    (hns:h1.Ns s.heap.objs.size (λ x=>(ps.zip us).reverse.lookup x)) (hk:∀ b o,s.heap.get? b=some o->h1.get? b=some o) :
    Inv (cxL P w K mg base (ps++[y]) q scope fa c [(y,cy)] A outer s H E) [] (vs.map some++[some v]) H { s with heap:=h1,toks:=tk }:=by
  have noA:∀ b:Addr,b∉(cxL P w K mg base (ps++[y]) q scope fa c [(y,cy)] A outer s H E).ex:=λ b z=>absurd (show b∈([]:List Addr) from z) (by simp)
  have look:∀ x d,([(y,cy)]:List (Str×Addr)).lookup x=some d->x=y/\d=cy:=λ x d e=>by
    rw [List.lookup_cons] at e
    by_cases z:x=y
    · subst z
      simp only [beq_self_eq_true] at e
      cases e
      exact ⟨rfl,rfl⟩
    · have:(x == y)=false:=beq_eq_false_iff_ne.mpr z
      rw [this] at e
      cases e
  have cells:h1.IsCell cy (some u):=by
    obtain ⟨o,e1,e2⟩:=hcy
    exact ⟨o,hk _ _ (e0.bs _ _ e1).1,e2⟩
  have cfree:H cy=none:=by
    obtain ⟨o,e1,e2⟩:=hcy
    exact (e0.bs _ _ e1).2
  have isy:∀ x,(scope.names.lookup x=some .cell∨scope.names.lookup x=some .free)->x=y:=λ x hx=>by
    rcases hx with hx | hx
    · exact absurd rfl (S.only _ (PySem.mem_of_lookup hx)).1
    · exact (S.only _ (PySem.mem_of_lookup hx)).2 rfl
  refine ⟨⟨e0.mod,S.kind,rfl,rfl,Nat.le_refl _,λ a b d h1 h2=>(look a d h1).1.trans (look b d h2).1.symm,λ x hx=>⟨cy,?_⟩,(λ _ _ z=>absurd z Bool.false_ne_true),λ _=>hd,Around.frames_deeper e0.frames,.inr ⟨rfl,rfl⟩,λ b z=>absurd z (noA b),e0.bs,e0.bsz,λ b _ _=>noA b,λ b z=>absurd z (noA b),e0.funs,e0.frf⟩,
    rfl,e0.bare,Un.kept hk,⟨_,hns,λ i x z e1 e2 e3=>?_⟩,λ x d e=>⟨some u,?_⟩,e0.hok.fresh (Nat.le_refl _),λ x d e=>?_,λ p hp=>absurd (show p∈([]:List (Addr×Obj)) from hp) (by simp),e0.hok.kept hk,?_⟩
  · have:=isy x hx
    subst this
    show ([(x,cy)]:List (Str×Addr)).lookup x=some cy
    simp
  · by_cases hi:i < ps.length
    · have e1:ps[i]?=some x:=by
        have:=e1
        show ps[i]?=some x
        rw [<- this]
        exact (List.getElem?_append_left hi).symm
      have e2:vs[i]?=some z:=by
        rw [List.getElem?_append_left (by rw [List.length_map,hl]; exact hi),List.getElem?_map] at e2
        cases q:vs[i]? with
        | none=>rw [q] at e2; cases e2
        | some z'=>rw [q] at e2; cases e2; rfl
      obtain ⟨u',hu,ru⟩:=r.get e2
      exact ⟨u',ru,.inl ⟨S.par x (List.mem_of_getElem? e1),lookup_zip S.nd e1 hu⟩⟩
    · have e1':(ps++[y])[i]?=some x:=e1
      rw [List.getElem?_append_right (by omega)] at e1'
      have hi2:i=ps.length:=by
        have:=(List.getElem?_eq_some_iff.mp e1').1
        simp at this
        omega
      subst hi2
      simp at e1'
      subst e1'
      rw [List.getElem?_append_right (by rw [List.length_map,hl]; exact Nat.le_refl _),List.length_map,hl] at e2
      simp at e2
      subst e2
      exact ⟨u,rv,.inr ⟨.inr S.free,cy,by show ([(y,cy)]:List (Str×Addr)).lookup y=some cy; simp,cells⟩⟩
  · obtain ⟨_,rfl⟩:=look x d e
    exact cells
  · obtain ⟨_,rfl⟩:=look x d e
    exact cfree
  · show (vs.map some++[some v]).length=(ps++[y]).length
    simp [hl]
noncomputable def beginL (ds:List D) (d:D):Ga:=ds.map Sl.val++[.val d]
theorem rep_beginL {H G:Hp} {ds:List D} {vs:List V} {d:D} {v:V} (g:Same G H) (tb:TabIn K H G) (l:DenL K G ds vs) (dv:Den K G d v):Rep K H G (beginL ds d) (vs.map some++[some v]) H G:=by
  have s:=(SlL.vals (H₀:=H) (H:=H) l).append (SlL.one (K:=K) (H₀:=H) (H:=H) (G:=G) (x:=.val d) (o:=some v) ⟨v,rfl,dv⟩)
  refine ⟨.refl g,tb,s.1,s.2,λ i j y z a h1 h2 m1 m2 _ _=>?_⟩
  have nm:∀ x∈beginL ds d,x.mu=false:=λ x hx=>by
    rcases List.mem_append.mp hx with h | h
    · obtain ⟨e,_,rfl⟩:=List.mem_map.mp h; rfl
    · rw [List.mem_singleton.mp h]; rfl
  have:=nm _ (List.mem_of_getElem? h1)
  rw [m1] at this
  cases this
theorem fn_L1 {fa c cy:Addr} {q nm qual:Str} {params:Arguments} {body:Expr} {scope:Scope} {pm ct:Value} {ps:List Str} {y:Str} {k:Nat} {f:Ga->R D} {d:D} {v:V} {u:Value}
    (ho:base.get? fa=some { cls:=.type "function",data:=.func (lamFn nm qual params body scope [(y,cy)] pm c ct) }) (hcy:base.IsCell cy (some u)) (rv:RelV v u) (S:LamScope ps y scope)
    (B:∀ (A:Around) (outer:List Env) (s:Shared) (H:Hp) (W:XP) (E:XK),Room k (A.deeper (lamEnv q scope s.heap.objs.size fa c [(y,cy)]))->EvD ((cxL P w K mg base (ps++[y]) q scope fa c [(y,cy)] A outer s H E).xw W) W body f) :
    FnOk P w K mg base (CX1 P w) (k + 1) fa (lamFn nm qual params body scope [(y,cy)] pm c ct) ps (spC K ps.length (λ G=>Den K G d v/\G c=some (.ext (CodeAt c q))) λ ds=>f (beginL ds d)):=by
  refine ⟨λ vs H Q E h=>?_,λ A outer s H args us vs Q E hr e0 hb r h=>?_⟩
  · obtain ⟨G,ds,_,_,_,l,hl,_⟩:=h
    exact l.length.symm.trans hl
  · obtain ⟨G,ds,g,tb,⟨dv,gc⟩,l,hl,w1⟩:=h
    have hvl:vs.length=ps.length:=l.length.symm.trans hl
    have lim:s.heap.NoLimit:=e0.mod.nolimit.keeps λ b o e=>(e0.bs b o e).1
    have hq:CodeAt c q s.heap:=(e0.hok c _ (g _ _ gc)).1
    refine call_lam (c:=c) (q:=q) hr.depth (e0.bs _ _ ho).1 rfl S.co S.gen rfl rfl hq (hb _ _ _ _ ?_)
    refine wpAny_newFunctionEnv (λ x hx=>?_) (λ x hx=>?_) (λ h1 hns hsb=>?_) S.kind
    · exact (S.only x hx).1
    · exact S.par _ (List.of_mem_zip hx).1
    have hk:∀ b o,s.heap.get? b=some o->h1.get? b=some o:=λ b o e=>hsb.extBut b o (Nat.ne_of_lt (Heap.lt_size e)) (Heap.get?_push_of_some _ e)
    refine ⟨lim.keeps hk,PySem.W.kla_codeExpr ?_⟩
    have I:=inv_lam (P:=P) (w:=w) (K:=K) (mg:=mg) (q:=q) (fa:=fa) (c:=c) (E:=E) (tk:=s.toks + (ps.zip us).length) S hr.hd e0 hvl r hcy rv hns hk
    obtain ⟨t,pe,qe⟩:=B A outer s H (λ c _ H' G'=>Ext H G H' G'/\∀ cls,ClsIs K c cls->E cls none H') E (hr.deeper _)
    have run:=pe [] _ _ H (λ z H'=>∃ G',Ext H G H' G'/\Q z H') (I.wish _) (qe _ _ _ _ _ _ (rep_beginL g tb l dv) _ ?_)
    · refine wpAny_mono run (λ z s' hz=>?_) λ e s' hx=>?_
      · obtain ⟨v',H',I',rz,G',_,q'⟩:=hz
        have J:=I'.unwish
        exact ⟨v',H',J.os,J.bare,J.base,J.hok,rz,q'⟩
      · obtain ⟨ea,σ,H',G',c1,C,rfl,I1,hc,⟨_,hw⟩,x⟩:=hx
        have Dc:DefCx (cxL P w K mg base (ps++[y]) q scope fa c [(y,cy)] A outer s H E):=⟨rfl,rfl,rfl⟩
        show wpAny _ _ (leaving _ (.ref ea)) _ _ s'
        unfold leaving
        refine wpAny_bind (note_ok (X:=cxL P w K mg base (ps++[y]) q scope fa c [(y,cy)] A outer s H E) Dc I1 x λ s1 I1 x1=>?_)
        refine flight_ok (X:=cxL P w K mg base (ps++[y]) q scope fa c [(y,cy)] A outer s H E) (o:=none) I1 x1 rfl λ s2 I2 x2=>?_
        have young:∀ b,Fp (cxL P w K mg base (ps++[y]) q scope fa c [(y,cy)] A outer s H E) [] H' b->s.heap.get? b=none/\H' b=none:=λ b hb=>⟨hb.new,hb.fr⟩
        exact ⟨ea,C,H',rfl,I2.os,I2.bare,I2.base,I2.hok,hw _ ⟨C,rfl,hc⟩,x2.at young (.inl rfl)⟩
    · exact wImp w1 (λ c1 h H' G' E1=>⟨E1,λ cls hcls=>h cls none H' G' hcls E1⟩) λ d' h z H' G' E1 dz=>⟨G',E1,h z H' G' E1 dz⟩
end
end Wy


namespace Wy
open PySem PySem.Spec PyProof.Rows L2
theorem funFrames_base {h b1 b2:Heap}:∀ {l:List Env},h.FunFrames b1 l->(∀ L∈frs l,b2.get? L=none)->h.FunFrames b2 l
  | [],_,_=>trivial
  | env::r,⟨hk,⟨L,o,hf,hn,ho,hd⟩,hr⟩,k=>by
    have e:frs (env::r)=L::frs r:=by unfold frs; rw [List.filterMap_cons,hf]
    rw [e] at k
    exact ⟨hk,⟨L,o,hf,k L List.mem_cons_self,ho,hd⟩,funFrames_base hr λ L' h'=>k L' (List.mem_cons_of_mem _ h')⟩
theorem among_snoc {pos p2:Pos} {c v:Value} (l:List Value) (t:TriplesOk l) (h:codeAmong pos (l++[rawInt p2.line,rawInt p2.col,c])=some v):codeAmong pos l=some v∨v=c:=by
  fun_induction TriplesOk l with
  | case1 =>
    simp only [List.nil_append,rawInt,codeAmong] at h
    split at h
    · exact .inr (Option.some.inj h).symm
    · cases h
  | case2 a ta b tb z r ih =>
    simp only [List.cons_append,codeAmong] at h ⊢
    split at h
    · rename_i q; rw [if_pos q]; exact .inl h
    · rename_i q; rw [if_neg q]; exact ih t h
  | case3=>exact t.elim
theorem TblOk.snoc {G:Hp} {ps:Array Value} {pos:Pos} {c:Addr} {q:Str} (t:TblOk G ps) (g:G c=some (.ext (CodeAt c q))):TblOk G (ps++#[rawInt pos.line,rawInt pos.col,.ref c]):=by
  have e:(ps++#[rawInt pos.line,rawInt pos.col,Value.ref c]).toList=ps.toList++[rawInt pos.line,rawInt pos.col,.ref c]:=by simp
  refine ⟨by rw [e]; exact TriplesOk_snoc _ _ _ _ t.1,λ p2 v h=>?_⟩
  rw [e] at h
  rcases among_snoc _ t.1 h with h | h
  · exact t.2 p2 v h
  · exact ⟨c,q,h,g⟩
section
variable {X:Cx} {W:XP} {pins:List (Addr×Obj)} {σ:L2.St} {H:Hp} {s:Shared}
noncomputable def baseOf (X:Cx) (H:Hp) (h:Heap):Heap:=PySem.W.hideAll h (trk h H++frs X.stack)
theorem base_get {h:Heap} {b:Addr} {o:Obj} (e:h.get? b=some o) (n:H b=none) (f:b∉frs X.stack):(baseOf X H h).get? b=some o :=
  PySem.W.hideAll_get _ e λ hm=>by
    rcases List.mem_append.mp hm with hm | hm
    · have q:(H b).isSome=true:=(List.mem_filter.mp hm).2
      rw [n] at q; simp at q
    · exact f hm
theorem of_base {h:Heap} {b:Addr} {o:Obj} (e:(baseOf X H h).get? b=some o):h.get? b=some o/\H b=none:=by
  have e':h.get? b=some o:=PySem.W.of_hideAll _ e
  refine ⟨e',?_⟩
  cases q:H b with
  | none=>rfl
  | some x =>
    have hm:b∈trk h H++frs X.stack:=List.mem_append_left _ (List.mem_filter.mpr ⟨List.mem_range.mpr (Heap.lt_size e'),by simp [q]⟩)
    have z:(baseOf X H h).get? b=none:=PySem.W.hideAll_none _ hm
    rw [z] at e; cases e
theorem base_fr {h:Heap} {b:Addr} (f:b∈frs X.stack):(baseOf X H h).get? b=none:=PySem.W.hideAll_none _ (List.mem_append_right _ f)
theorem base_sub (I:Inv X pins σ H s) {b:Addr} {o:Obj} (e:X.base.get? b=some o):(baseOf X H s.heap).get? b=some o:=by
  obtain ⟨h1,h2⟩:=I.bs b o e
  refine base_get h1 h2 λ z=>?_
  rcases List.mem_cons.mp (I.stkSub b z) with q | q
  · have:=Heap.lt_size e
    exact absurd (Nat.lt_of_lt_of_le this (Nat.le_trans I.ok.bsz I.ok.above)) (by rw [q]; exact Nat.lt_irrefl _)
  · exact I.ok.nofr e q
theorem base_bas (I:Inv X pins σ H s) (B:Bas X.K X.mg X.base):Bas X.K X.mg (baseOf X H s.heap):=by
  have sub:∀ b o,X.base.get? b=some o->(baseOf X H s.heap).get? b=some o:=λ b o e=>base_sub I e
  refine ⟨B.kin.keeps sub,B.ns.keeps sub,?_,λ y hy c P e=>(B.code y hy c P e).keeps sub⟩
  obtain ⟨bm,ob,b1,b2,b3,r⟩:=B.bi
  exact ⟨bm,ob,b1,b2,sub _ _ b3,r⟩
theorem base_env (I:Inv X pins σ H s):Env0 X.prog X.w X.K X.mg (baseOf X H s.heap) X.A X.stack s H:=by
  have sub:∀ b o,X.base.get? b=some o->(baseOf X H s.heap).get? b=some o:=λ b o e=>base_sub I e
  have M:Mod X.K X.mg (baseOf X H s.heap):=⟨I.mod.kin.keeps sub,I.mod.glob.keeps sub,let ⟨mb,h1,h2⟩:=I.mod.blt; ⟨mb,h1.keeps sub,h2⟩,I.mod.nolimit.keeps sub⟩
  exact ⟨I.ok.frames,M,λ b o e=>of_base e,Nat.le_of_eq (PySem.W.hideAll_size _ _),funFrames_base I.stack λ L h=>base_fr h,I.stkFree,I.hok,I.bare⟩
end
end Wy

namespace Wy
open PySem PySem.Spec PyProof.Rows L2
section
variable {X:Cx} {W:XP} {pins:List (Addr×Obj)} {σ:L2.St} {H G:Hp} {s:Shared}
noncomputable def lamPhi (K:PySem.W.Frag) (d:D) (v:V) (c:Addr) (q:Str):Hp->Prop:=λ G=>Den K G d v/\G c=some (.ext (CodeAt c q))
theorem lamPhi_up {K:PySem.W.Frag} {d:D} {v:V} {c:Addr} {q:Str}:∀ G1 G2,Same G1 G2->lamPhi K d v c q G1->lamPhi K d v c q G2:=λ _ _ e h=>⟨h.1.up e,e _ _ h.2⟩
theorem make_lam {params:Arguments} {body:Expr} {scope:Scope} {lpos:Pos} {x0:Str} {c P:Addr} {cl:List (Str×Addr)} {E:Value->Shared->Prop} {Q:Value->Shared->Prop} (I:Inv X pins σ H s) (B:Bas X.K X.mg X.base) (g:Same G H) (tab:TabIn X.K H G)
    (hx0:x0∈LAMS) (ht:PySem.W.tabIn X.K x0=some (c,P)) (hcode:X.env.code=.ref c) (hdef:defaultsOf params X.env=([],[])) (hcl:closureFor scope X.env=pure cl)
    (h:∀ (fa c':Addr) (q:Str) (pm ct:Value) (s2:Shared) (H2 G2:Hp),Inv X pins σ H2 s2->Ext H G H2 G2->s2.heap.get? fa=some { cls:=.type "function",data:=.func (lamFn "<lambda>" (X.env.qual++"<lambda>") params body scope cl pm c' ct) } ->
      H2 fa=none->s.heap.objs.size<=fa->G2 c'=some (.ext (CodeAt c' q))->(∀ b v,s.heap.IsCell b v->H b=none->s2.heap.IsCell b v)->Q (.ref fa) s2) :
    wpAny (model X.prog X.w) X.A (eval (.Lambda params body scope lpos) X.env) Q E s:=by
  obtain ⟨gP,ps,hP,tok⟩:=tab x0 hx0 c P ht
  have hP':s.heap.get? P=some (PySem.W.tabObj ps):=I.hok P _ hP
  have hglob:s.heap.Ns mainGlobals X.mg:=I.mod.glob.keeps I.bk
  have hC:PySem.W.CodeHd s.heap c P:=(B.code x0 hx0 c P ht).keeps I.bk
  have neP:∀ b o,X.base.get? b=some o->b≠P:=λ b o e z=>by
    have:=(I.bs b o e).2
    rw [z,hP] at this; cases this
  obtain ⟨og,eg,epg,hog,hdg,_⟩:=id I.mod.glob
  obtain ⟨bm,ob,b1,b2,b3,b4,b5,b6⟩:=B.bi
  have hgP:mainGlobals≠P:=neP _ _ hog
  have hbG:bm≠mainGlobals:=λ z=>by
    rw [z,hog] at b3
    cases b3
    rw [hdg] at b6
    cases b6
  have hb:s.heap.BuiltinsAt X.mg P:=⟨bm,ob,b1,b2,hbG,neP _ _ b3,I.bk _ _ b3,b4,b5,b6⟩
  refine PySem.W.kla_eval hdef ?_
  cases ham:codeAmong lpos ps.toList with
  | none =>
    refine PySem.W.kla_makeFunction (mg:=X.mg) hcl I.ok.glob hglob hcode hC hP' tok.1 ham hgP hb λ c' ct h' tk hx hge hlt hrec htb=>?_
    have hc':H c'=none:=I.hok.fresh hge
    have gc':G c'=none:=g.free hc'
    have nPc:P≠c':=λ z=>by rw [z,hc'] at hP; cases hP
    have keep:∀ b o,b≠P->s.heap.get? b=some o->(h'.push (PySem.W.kla_obj "<lambda>" (X.env.qual++"<lambda>") params body scope cl ((X.mg "__name__").getD .none) c' ct)).get? b=some o:=λ b o n e=>Heap.get?_push_of_some _ (hx b o n e)
    have notP:∀ b,H b=none->b≠P:=λ b n z=>by rw [z,hP] at n; cases n
    have newc:∀ b o,s.heap.get? b=some o->b≠c':=λ b o e z=>absurd (Nat.lt_of_lt_of_le (Heap.lt_size e) (by rw [z]; exact hge)) (Nat.lt_irrefl _)
    have tb2:(h'.push (PySem.W.kla_obj "<lambda>" (X.env.qual++"<lambda>") params body scope cl ((X.mg "__name__").getD .none) c' ct)).get? P=some (PySem.W.tabObj (ps++#[rawInt lpos.line,rawInt lpos.col,.ref c'])):=Heap.get?_push_of_some _ htb
    have H2P:∀ {b:Addr},b≠P->b≠c'->upd (upd H P (.tbl (ps++#[rawInt lpos.line,rawInt lpos.col,.ref c']))) c' (.ext (CodeAt c' (X.env.qual++"<lambda>"))) b=H b:=λ n1 n2=>by rw [upd_ne n2,upd_ne n1]
    have HP2:upd (upd H P (.tbl (ps++#[rawInt lpos.line,rawInt lpos.col,.ref c']))) c' (.ext (CodeAt c' (X.env.qual++"<lambda>"))) P=some (.tbl (ps++#[rawInt lpos.line,rawInt lpos.col,.ref c'])):=by rw [upd_ne nPc,upd_same]
    have hpn:∀ b o,H b=some o->isTbl o=false->b≠P:=λ b o e n z=>by rw [z,hP] at e; cases e; cases n
    have hcn:∀ b o,H b=some o->b≠c':=λ b o e z=>by rw [z,hc'] at e; cases e
    have there:∀ b o,s.heap.get? b=some o->∃ o',(h'.push (PySem.W.kla_obj "<lambda>" (X.env.qual++"<lambda>") params body scope cl ((X.mg "__name__").getD .none) c' ct)).get? b=some o':=λ b o e=>by
      by_cases z:b=P
      · rw [z]; exact ⟨_,tb2⟩
      · exact ⟨o,keep b o z e⟩
    refine h h'.objs.size c' (X.env.qual++"<lambda>") _ ct _ (upd (upd H P (.tbl (ps++#[rawInt lpos.line,rawInt lpos.col,.ref c']))) c' (.ext (CodeAt c' (X.env.qual++"<lambda>")))) (upd G c' (.ext (CodeAt c' (X.env.qual++"<lambda>")))) (I.un (t':=tk) ?_ ?_) ?_ (Heap.get?_push_size _ rfl) ?_ ?_ upd_same ?_
    · refine ⟨λ b o e n _ _=>keep b o (notP b n) e,λ b o e n _ _=>⟨o.slots,keep b o (notP b n) e⟩,λ b o e n _=>by rw [H2P (notP b n) (newc b o e)]; exact n,λ b o e _=>there b o e,λ b xs e=>?_,λ b o u e=>?_,λ b qs e=>?_⟩
      · rw [H2P (hpn b _ e rfl) (hcn b _ e)]; exact e
      · rw [H2P (hpn b _ e rfl) (hcn b _ e)]; exact e
      · by_cases z:b=P
        · subst z
          rw [hP] at e
          cases e
          exact ⟨_,HP2⟩
        · exact ⟨#[],by rw [H2P z (hcn b _ e),e]; simp⟩
    · intro b u e
      by_cases z:b=c'
      · subst z
        rw [upd_same] at e
        cases e
        refine ⟨hrec.push _,?_,λ g1 g2 p k=>?_⟩
        · obtain ⟨c2,oc,_,_,e1,e2,_⟩:=hrec
          cases e1
          exact ⟨oc,Heap.get?_push_of_some _ e2⟩
        · obtain ⟨c2,oc,vs,t,e1,e2,r⟩:=p
          cases e1
          exact ⟨_,oc,vs,t,rfl,k _ e2,r⟩
      · by_cases z2:b=P
        · subst z2
          rw [HP2] at e
          cases e
          exact tb2
        · rw [H2P z2 z] at e
          refine (I.hok b u e).stay (λ d v hc q=>keep d v ?_ q) (λ d q=>?_) λ d xs q=>?_
          · rcases hc with rfl | hc
            · exact z2
            · exact hpn d _ hc rfl
          · rw [H2P (hpn d _ q rfl) (hcn d _ q)]; exact q
          · rw [H2P (hpn d _ q rfl) (hcn d _ q)]; exact q
    · refine ⟨same_upd gc' _,λ b o e=>?_,⟨λ b o e n=>by rw [H2P (hpn b o e n) (hcn b o e)]; exact e,λ b qs e=>?_⟩,λ b hb=>upd_ne (λ z=>hb (by rw [z]; exact hc')),λ b qs e=>?_⟩
      · by_cases z:b=c'
        · subst z; rw [upd_same] at e ⊢; exact e
        · rw [upd_ne z] at e
          have nP:b≠P:=λ q=>by rw [q,gP] at e; cases e
          rw [H2P nP z]; exact g b o e
      · by_cases z:b=P
        · rw [z]; exact ⟨_,HP2⟩
        · exact ⟨qs,by rw [H2P z (hcn b _ e)]; exact e⟩
      · by_cases z:b=P
        · subst z
          rw [hP] at e
          cases e
          exact ⟨_,HP2,λ Gx q t=>t.snoc (q _ _ upd_same)⟩
        · exact ⟨qs,by rw [H2P z (hcn b _ e)]; exact e,λ _ _ t=>t⟩
    · have hz:s.heap.objs.size<=h'.objs.size:=Nat.le_trans hge (Nat.le_of_lt hlt)
      have n1:h'.objs.size≠P:=λ q=>absurd (Nat.lt_of_lt_of_le (Heap.lt_size hP') hz) (by rw [q]; exact Nat.lt_irrefl _)
      rw [H2P n1 (Nat.ne_of_gt hlt)]
      exact I.hok.fresh hz
    · exact Nat.le_trans hge (Nat.le_of_lt hlt)
    · rintro b v ⟨o,e1,e2⟩ n
      exact ⟨o,keep b o (notP b n) e1,e2⟩
  | some cv =>
    obtain ⟨c',q,rfl,gc⟩:=tok.2 lpos cv ham
    refine PySem.W.kla_makeFunctionHit (mg:=X.mg) hcl I.ok.glob hglob hcode hC hP' tok.1 ham hb λ ct h' tk hk hz=>?_
    have keep:∀ b o,s.heap.get? b=some o->(h'.push { cls:=.type "function",data:=.func (PySem.W.kla_fn "<lambda>" (X.env.qual++"<lambda>") params body scope cl ((X.mg "__name__").getD .none) (.ref c') ct) }).get? b=some o:=λ b o e=>Heap.get?_push_of_some _ (hk b o e)
    exact h h'.objs.size c' q _ ct _ H G (I.kept (t':=tk) keep) (.refl g) (Heap.get?_push_size _ rfl) (I.hok.fresh hz) hz gc λ b v ⟨o,e1,e2⟩ _=>⟨o,keep b o e1,e2⟩
noncomputable def eCallL (j:Nat) (F:D->List D->R D) (f1:Ga->R D):Ga->R D:=λ Γ=>match Γ[j]? with
  | some (.val d)=>(f1 Γ).bind λ d1=>F d [d1]
  | _=>.no
theorem ev_callL {k:Nat} {e1:Expr} {f1:Ga->R D} {params:Arguments} {body:Expr} {scope:Scope} {lpos p pos:Pos} {x0 y gx:Str} {c P cy ga:Addr} {fdg:FuncData} {psg:List Str} {Fm:D->List D->R D} (j:Nat) (B:Bas X.K X.mg X.base)
    (hx0:x0∈LAMS) (ht:PySem.W.tabIn X.K x0=some (c,P)) (hcode:X.env.code=.ref c) (hx:PassW (CX1 X.prog X.w) X W) (hr:Room k X.A) (hg:Gl X gx) (hm:X.mg gx=some (.ref ga)) (hk:PySem.W.keepIn X.K (.ref ga)=true) (hb:Binds X.K fdg psg [])
    (Fn:∀ (base:Heap) (fa c':Addr) (q:Str) (pm ct u:Value) (v:V) (d:D),Bas X.K X.mg base->base.get? fa=some { cls:=.type "function",data:=.func (lamFn "<lambda>" (X.env.qual++"<lambda>") params body scope [(y,cy)] pm c' ct) }->base.IsCell cy (some u)->RelV v u ->
      FnOk X.prog X.w X.K X.mg base (CX1 X.prog X.w) k ga fdg psg (spN X.K psg.length 1 fa (lamPhi X.K d v c' q) (Fm d)))
    (he:EvD X W e1 f1) (hN:X.N[j]?=some y:=by rfl) (hky:X.env.kindOf y=some .cell:=by rfl) (hcl:closureFor scope X.env=pure [(y,cy)]:=by rfl) (hcy:X.env.cells.lookup y=some cy:=by rfl) (hfn:X.fn y=true:=by rfl) (hdef:defaultsOf params X.env=([],[]):=by rfl)
    (hn:psg.length=2:=by rfl) (hdb:(gx == ("__debug__":Str))=false:=by decide)
    (hs:starEach [e1,.Lambda params body scope lpos] X.env=[(false,eval e1 X.env),(false,eval (.Lambda params body scope lpos) X.env)]:=by rfl) :
    EvD X W (.Call (.Name gx p) [e1,.Lambda params body scope lpos] [] pos) (eCallL j Fm f1):=by
  obtain ⟨t,pt,q⟩:=he
  refine ⟨λ σ H Q=>∃ (H₀ G₀:Hp) (Γ:Ga) (G:Hp),Rep X.K H₀ G₀ Γ σ H G/\(eCallL j Fm f1 Γ).want (exAt W σ H G) λ d=>∀ v H' G',Ext H G H' G'->Den X.K G' d v->Q v H',?_,λ H₀ G₀ Γ σ H G R Q w=>⟨H₀,G₀,Γ,G,R,w⟩⟩
  rintro pins s σ H Q I ⟨H₀,G₀,Γ,G,R,w⟩
  unfold eCallL at w
  split at w
  · rename_i d hj
    obtain ⟨v,sj,dv⟩:=R.vl j d hj
    refine wpAny_Call_Name_kw (ld_glob I hg hm ?_ hdb)
    have hs1:starEach [e1,.Lambda params body scope lpos] X.env=(false,eval e1 X.env)::starEach [.Lambda params body scope lpos] X.env:=by rw [hs]; rfl
    refine PySem.W.callWith_K (h₀:=X.base) I.ok.mod.kin hk ?_ hs1 (by rfl)
    rw [hs]
    show wpAny _ _ (spliced [(false,eval e1 X.env),(false,eval (.Lambda params body scope lpos) X.env)]) _ _ s
    have run1:=pt pins s σ H (λ x1 H1=>∃ G1 dd,Ext H G H1 G1/\Den X.K G1 dd x1/\(Fm d [dd]).want (exAt W σ H G) λ d=>∀ v H' G',Ext H G H' G'->Den X.K G' d v->Q v H') I
      (q _ _ _ _ _ _ R _ (wStep w (λ _ h=>h) λ dd w x1 H1 G1 E1 d1=>⟨G1,dd,E1,d1,w⟩))
    refine Calls.spliced_cons (thn run1 λ u1 s1 ⟨x1,H1,I1,r1,G1,dd,E1,d1,w1⟩=>?_)
    have R1:=R.after E1
    obtain ⟨m,hns,hl⟩:=I1.loc
    obtain ⟨u,ru,lk⟩:=hl j y v hN sj (.inr (.inl hky))
    have hcell:s1.heap.IsCell cy (some u):=by
      rcases lk with ⟨z,_⟩ | ⟨_,cc,z1,z2⟩
      · rw [hky] at z; cases z
      · rw [hcy] at z1; cases z1; exact z2
    refine Calls.spliced_cons (make_lam I1 B R1.gh R1.tab hx0 ht hcode hdef hcl λ fa c' qq pm ct s2 H2 G2 I2 E2 hfa hfn2 hsz gc cells=>Calls.spliced_nil ⟨I2.kIn,?_⟩)
    have hcell2:=cells cy _ hcell (I1.freeC y cy hcy)
    have nstk:∀ b,b≠X.env.locals->b∉X.fs->b∉frs X.stack:=λ b n1 n2 z=>(List.mem_cons.mp (I2.stkSub b z)).elim n1 n2
    have fa1:fa∉frs X.stack:=nstk fa (Nat.ne_of_gt (Nat.lt_of_lt_of_le I1.lt hsz)) (I1.nofs hsz)
    have cy1:cy∉frs X.stack:=nstk cy (I2.cne y cy hcy) λ z=>by
      obtain ⟨_,o,ho,_⟩:=I2.ok.funs.mem z
      exact absurd (Nat.lt_of_lt_of_le (Heap.lt_size ho) (I2.ok.cab y cy hfn hcy)) (Nat.lt_irrefl _)
    have F:=Fn (baseOf X H2 s2.heap) fa c' qq pm ct u v d (base_bas I2 B) (base_get hfa hfn2 fa1) (by
      obtain ⟨o,z1,z2⟩:=hcell2
      exact ⟨o,base_get z1 (I2.freeC y cy hcy) cy1,z2⟩) ru
    have bb:=hb s2 [u1,.ref fa] I2.kIn (by simp [hn])
    rw [List.append_nil] at bb
    refine wpAny_call (codeAny_mono (F.run X.A X.stack s2 H2 ⟨[u1,.ref fa],[]⟩ [u1,.ref fa] [x1,.ref fa] Q (xkOf X.K W σ) hr (base_env I2) bb (.cons r1 (.cons rfl .nil)) ?_) λ r s' hq=>?_)
    · refine ⟨G2,[dd],[x1],rfl,E2.gh,E2.tab R1.tab,⟨dv.up (E1.gg.trans E2.gg),gc⟩,.one (d1.up E2.gg),by simp [hn],?_⟩
      exact wImp w1 (λ c1 h cls dx H' G' hc E3=>⟨c1,G',hc,h H' G' (E1.trans (E2.trans E3))⟩) λ dr h z H' G' E3 dz=>h z H' G' (E1.trans (E2.trans E3)) dz
    · cases r with
      | error e=>exact hx pins σ H2 s2 e s' I2 hq
      | ok fl =>
        cases fl with
        | ret u=>exact I2.after hq
        | next=>exact False.elim hq
        | brk=>exact False.elim hq
        | cont=>exact False.elim hq
  · exact w.elim
end
end Wy


namespace Wy
open PySem PySem.Spec PyProof.Rows L2
noncomputable def blkN2 (x y:Str) (N:List Str):List Str:=x::y::accN N.length::N
noncomputable def blk2 (X:Cx) (scope:Scope) (cl:List (Str×Addr)) (C:Addr) (x y:Str) (s₀:Shared) (H₀:Hp) (ex:List Addr):Cx :=
  { X with N:=blkN2 x y X.N,s₀:=s₀,H₀:=H₀,env:=compEnvC scope cl C X.env,outer:=X.stack,stack:=X.stack,ex:=ex,fn:=λ _=>false,pn:=[],xe:=λ _ _=>False }
structure BlkOk2 (X:Cx) (scope:Scope) (cl:List (Str×Addr)) (x y:Str):Prop where
  kind:scope.kind=.function
  cells:∀ y∈scope.names,y.2≠.cell
  clos:closureFor scope X.env=pure cl
  names:∀ y∈scope.names,y.2=.local->scope.names.lookup y.1=some .local
  var:scope.names.lookup x=some .local
  var2:scope.names.lookup y=some .local
  nd:(blkN2 x y X.N).Nodup
  cl1:∀ y c,cl.lookup y=some c->X.env.cells.lookup y=some c
  cl2:∀ y,((relabel scope X.env).names.lookup y=some .cell∨(relabel scope X.env).names.lookup y=some .free)->∃ c,cl.lookup y=some c
  acc:¬ Vis (relabel scope X.env) (accN X.N.length)
  vis:∀ z∈X.N,Vis (relabel scope X.env) z->((relabel scope X.env).names.lookup z=some .cell∨(relabel scope X.env).names.lookup z=some .free)/\(X.env.kindOf z=some .cell∨X.env.kindOf z=some .free)
section
variable {X:Cx} {pins:List (Addr×Obj)} {σ:L2.St} {H:Hp} {s:Shared} {scope:Scope} {cl:List (Str×Addr)} {x x2:Str} {fp:List Addr}
theorem blk_ok2 (B:BlkOk2 X scope cl x x2) (I:Inv X pins σ H s) (hf:∀ b∈fp,FpOk X pins H b) (hfp:∀ b∈fp,b < s.heap.objs.size) {C:Addr} (hC:s.heap.objs.size<=C):(blk2 X scope cl C x x2 s H fp).Ok where
  mod:=I.ok.mod
  kind:=B.kind
  glob:=I.ok.glob
  blt:=I.ok.blt
  above:=hC
  inj:=λ y z c h1 h2=>I.ok.inj y z c (B.cl1 y c h1) (B.cl1 z c h2)
  has:=λ y h=>B.cl2 y h
  cab:=λ _ _ h=>nomatch h
  hd:=I.ok.hd
  frames:=I.ok.frames
  stk:=.inl rfl
  exf:=λ b hb=>⟨Nat.ne_of_lt (Nat.lt_of_lt_of_le (hfp b hb) hC),λ y c h=>(hf b hb).2.2.2.2.1 y c (B.cl1 y c h)⟩
  bs:=I.bs
  bsz:=Nat.le_trans I.ok.bsz I.sz
  noex:=λ b o e hb=>by
    rcases (hf b hb).2.2.2.1 with z | z
    · exact I.ok.noex b o e z
    · exact absurd (Nat.lt_of_lt_of_le (Heap.lt_size e) (Nat.le_trans I.ok.bsz z)) (Nat.lt_irrefl _)
  exfs:=λ b hb z=>by
    rcases List.mem_cons.mp (I.stkSub b z) with e | e
    · exact (hf b hb).2.1 e
    · exact (hf b hb).2.2.1 e
  funs:=I.stack
  frf:=I.stkFree
theorem blk_inv2 (B:BlkOk2 X scope cl x x2) (I:Inv X pins σ H s) (hf:∀ b∈fp,FpOk X pins H b) (hfp:∀ b∈fp,b < s.heap.objs.size) {C Dd:Addr} {h1:Heap} {tk:Nat} {m:Str->Option Value}
    (hC:s.heap.objs.size<=C) (hD:s.heap.objs.size<=Dd) (hDC:Dd≠C) (hn:h1.Ns C m) (hd:h1.get? Dd=some { cls:=.type "list",data:=.seq #[] 0 }) (k:∀ b o,s.heap.get? b=some o->h1.get? b=some o) :
    Inv (blk2 X scope cl C x x2 s H fp) [] (none::none::some (V.ref Dd)::σ) (upd H Dd (.lst [])) { s with heap:=h1,toks:=tk } where
  ok:=blk_ok2 B I hf hfp hC
  os:=rfl
  bare:=I.bare
  base:=Un.laid k hD (I.hok.fresh hD)
  loc:=by
    refine ⟨m,hn,λ i y v e1 e2 e3=>?_⟩
    match i,e1,e2 with
    | 0,e1,e2=>cases e2
    | 1,e1,e2=>cases e2
    | 2,e1,e2 =>
      have e:y=accN X.N.length:=by
        have:=e1
        simp only [blk2,blkN2,List.getElem?_cons_succ,List.getElem?_cons_zero] at this
        exact (Option.some.inj this).symm
      subst e
      exact absurd e3 B.acc
    | i + 3,e1,e2 =>
      have hz:X.N[i]?=some y:=e1
      have e2':σ[i]?=some (some v):=e2
      have hmem:y∈X.N:=List.mem_of_getElem? hz
      obtain ⟨hk1,hk2⟩:=B.vis y hmem e3
      obtain ⟨m0,_,hl⟩:=I.loc
      obtain ⟨u,r,l⟩:=hl i y v hz e2' (hk2.elim (λ q=>.inr (.inl q)) λ q=>.inr (.inr q))
      refine ⟨u,r,.inr ⟨hk1,?_⟩⟩
      rcases l with ⟨q,_⟩ | ⟨_,c,hc,hcell⟩
      · rcases hk2 with q' | q' <;> (rw [q] at q'; cases q')
      · obtain ⟨c',hc'⟩:=B.cl2 y hk1
        have:=B.cl1 y c' hc'
        rw [hc] at this
        cases this
        obtain ⟨o,ho,hod⟩:=hcell
        exact ⟨c,hc',o,k _ _ ho,hod⟩
  cell:=λ y c h=>by
    obtain ⟨v,o,ho,hod⟩:=I.cell y c (B.cl1 y c h)
    exact ⟨v,o,k _ _ ho,hod⟩
  free:=by
    show upd H Dd (.lst []) C=none
    rw [upd_ne (Ne.symm hDC)]
    exact I.hok.fresh hC
  freeC:=λ y c h=>by
    obtain ⟨v,o,ho,hod⟩:=I.cell y c (B.cl1 y c h)
    show upd H Dd (.lst []) c=none
    rw [upd_ne (λ e=>absurd (Nat.lt_of_lt_of_le (Heap.lt_size ho) (by rw [e]; exact hD)) (Nat.lt_irrefl _))]
    exact I.freeC y c (B.cl1 y c h)
  pin:=λ p hp=>nomatch hp
  hok:=I.hok.laid k hD ⟨Nat.zero_le _,[],0,.nil,hd⟩
  len:=by
    show (none::none::some (V.ref Dd)::σ).length=(blkN2 x x2 X.N).length
    simp [blkN2,I.len]
end
theorem ofO_ok {α:Type} {o:Option α} {a:α} (h:R.ofO o=.ok a):o=some a:=by cases o with
  | none=>cases h
  | some b=>cases h; rfl
noncomputable def pairD:D->Option (D×D)
  | .tup [a,b]=>some (a,b)
  | _=>none
theorem pairD_eq {d:D} {p:D×D} (h:pairD d=some p):d=.tup [p.1,p.2]:=by
  unfold pairD at h
  split at h
  · cases h; rfl
  · cases h
noncomputable def compR2 (c:Ga->R Bool) (f:Ga->R D) (Γ:Ga):List D->R (List D)
  | []=>.ok []
  | d::ds=>(R.ofO (pairD d)).bind λ p=>(c (.val p.1::.val p.2::.un::Γ)).calm.bind λ k=>match k with
    | true=>(f (.val p.1::.val p.2::.un::Γ)).calm.bind λ y=>(compR2 c f Γ ds).bind λ r=>.ok (y::r)
    | false=>compR2 c f Γ ds
theorem compR2_calm (c:Ga->R Bool) (f:Ga->R D) (Γ:Ga):∀ ds x,compR2 c f Γ ds≠.ex x
  | [],x,h=>by cases h
  | d::ds,x,h=>by
    unfold compR2 at h
    cases h0:pairD d with
    | none=>rw [h0] at h; cases h
    | some p =>
    rw [h0] at h
    have h:(c (.val p.1::.val p.2::.un::Γ)).calm.bind (λ k=>match k with
      | true=>(f (.val p.1::.val p.2::.un::Γ)).calm.bind λ y=>(compR2 c f Γ ds).bind λ r=>.ok (y::r)
      | false=>compR2 c f Γ ds)=.ex x:=h
    cases h1:c (.val p.1::.val p.2::.un::Γ) with
    | ok k =>
      rw [h1] at h
      cases k with
      | false=>exact compR2_calm c f Γ ds x h
      | true =>
        simp only [calm_of_ok,R.bind_ok] at h
        cases h2:f (.val p.1::.val p.2::.un::Γ) with
        | ok y =>
          rw [h2] at h
          simp only [calm_of_ok,R.bind_ok] at h
          cases h3:compR2 c f Γ ds with
          | ok r=>rw [h3] at h; cases h
          | ex z=>exact compR2_calm c f Γ ds z h3
          | no=>rw [h3] at h; cases h
        | ex z=>rw [h2] at h; cases h
        | no=>rw [h2] at h; cases h
    | ex z=>rw [h1] at h; cases h
    | no=>rw [h1] at h; cases h
section
variable {X:Cx} {pins:List (Addr×Obj)} {σ:L2.St} {H H₀ G₀ G:Hp} {Γ:Ga} {s:Shared} {scope:Scope} {cl:List (Str×Addr)} {x x2:Str} {px px2 pos tpos:Pos} {tk:Nat} {fp:List Addr} {elt iter:Expr} {ifs:List Expr} {c:Ga->R Bool} {f:Ga->R D}
theorem comp_core2 {J:It} {it:Addr} {tn:Nat->Heap->Prop} {ds outs:List D} {E:Value->Shared->Prop} (B:BlkOk2 X scope cl x x2) (hcalm:X.calm=true) (I:Inv X pins σ H s) (R:Rep X.K H₀ G₀ Γ σ H G)
    (T:Turn X.prog X.w X.K (.Tuple [.Name x px,.Name x2 px2] tk tpos) J fp it tn) (st:tn 0 s.heap) (hf:∀ b∈fp,FpOk X pins H b) (Y:Yields X.K J G ds)
    (hT:∀ C,TsD (blk2 X scope cl C x x2 s H fp) ifs c) (hE:∀ C,EvD (blk2 X scope cl C x x2 s H fp) XP0 elt f) (hc:compR2 c f Γ ds=.ok outs) (hlen:ds.length < 16000000)
    {RR:Value->Addr->Result->Shared->Prop}
    (hRR:∀ Dd C s' H' G' vs m,s'.os=s.os->AllBare s'.gens->Un (frs X.stack) fp H H' s.heap s'.heap->HOk X.prog X.w H' s'.heap->s.heap.objs.size<=C->H' C=none->s'.heap.Ns C m ->
      Ext H G H' G'->H Dd=none->H' Dd=some (.lst vs)->G' Dd=none->DenL X.K G' outs vs->RR (.ref Dd) C (.ok .next) s') :
    wpAny (model X.prog X.w) X.A (newList []) (λ acc s₃=>wpAny (model X.prog X.w) X.A (newFunctionEnv scope X.env.globals cl [] X.env.qual none .none (some X.env)) (λ cenv s₄ =>
      codeAny (model X.prog X.w) X.A (.compStart (.ListComp elt [⟨.Tuple [.Name x px,.Name x2 px2] tk tpos,iter,ifs,0⟩] scope pos) 0 (.ref it) acc { cenv with scope:=relabel scope X.env }) (RR acc cenv.locals) s₄) E s₃) E s:=by
  have hfp:∀ b∈fp,b < s.heap.objs.size:=λ b hb=>by
    obtain ⟨o,e,_⟩:=T.obj 0 _ st b hb
    exact Heap.lt_size e
  refine wpAny_newObj_type (wpAny_newFunctionEnv B.cells (by intro y hy; simp at hy) (λ h₁ hns₁ hsb₁=>?_) B.kind)
  dsimp only at hns₁ hsb₁ ⊢
  generalize hH2:s.heap.push { cls:=.type "list",dict:=none,data:=.seq ([]:List Value).toArray }=H2 at hns₁ hsb₁ ⊢
  have hC:H2.objs.size=s.heap.objs.size + 1:=by rw [<- hH2,Heap.size_push]
  have hDC:s.heap.objs.size≠H2.objs.size:=by rw [hC]; exact Nat.ne_of_lt (Nat.lt_succ_self _)
  have hCle:s.heap.objs.size<=H2.objs.size:=by rw [hC]; exact Nat.le_succ _
  have old:∀ b o,s.heap.get? b=some o->h₁.get? b=some o:=λ b o e=>hsb₁.extBut b o (by rw [hC]; exact Nat.ne_of_lt (Nat.lt_succ_of_lt (Heap.lt_size e))) (Heap.get?_push_of_some _ (hH2 ▸ Heap.get?_push_of_some _ e))
  have hacc:h₁.get? s.heap.objs.size=some { cls:=.type "list",data:=.seq #[] 0 }:=hsb₁.extBut _ _ hDC (Heap.get?_push_of_some _ (hH2 ▸ Heap.get?_push_size _ rfl))
  have I0:=blk_inv2 (tk:=s.toks + ([]:List (Str×Value)).length) B I hf hfp hCle (Nat.le_refl _) hDC hns₁ hacc old
  have hp:H s.heap.objs.size=none:=I.fresh
  have E0:Ext H G (upd H s.heap.objs.size (.lst [])) G:=.own R.gh hp _
  have R0:Rep X.K H₀ G₀ (.un::.un::.own []::Γ) (none::none::some (V.ref s.heap.objs.size)::σ) (upd H s.heap.objs.size (.lst [])) G:=by
    have r1:=((R.after E0).consUn (some (V.ref s.heap.objs.size)))
    have r2:=r1.setO 0 (xs:=[]) (a:=s.heap.objs.size) (vs:=[]) upd_same (R.ex.hh.free hp) (R.gh.free hp) (denL_nil.mpr rfl) (λ j ys hj hy hm hs=>?_)
    · exact (r2.consUn none).consUn none
    · cases j with
      | zero=>exact hj rfl
      | succ j =>
        obtain ⟨a,us,s1,s2,_⟩:=R.at (i:=j) (x:=ys) (by simpa using hy) hm
        have hs':σ[j]?=some (some (V.ref s.heap.objs.size)):=by simpa using hs
        rw [hs'] at s1
        cases s1
        rw [hp] at s2
        cases s2
  generalize hX:blk2 X scope cl H2.objs.size x x2 s H fp=X' at I0
  have eK:X'.K=X.K:=by rw [<- hX]; rfl
  have eP:X'.prog=X.prog:=by rw [<- hX]; rfl
  have eW:X'.w=X.w:=by rw [<- hX]; rfl
  have eA:X'.A=X.A:=by rw [<- hX]; rfl
  have eE:X'.env=compEnvC scope cl H2.objs.size X.env:=by rw [<- hX]; rfl
  have eX:X'.xe=λ _ _=>False:=by rw [<- hX]; rfl
  have eN:X'.N=blkN2 x x2 X.N:=by rw [<- hX]; rfl
  have eF:X'.fs=frs X.stack:=by rw [<- hX]; rfl
  have eCa:X'.calm=true:=by rw [<- hX]; exact hcalm
  have hT':TsD X' ifs c:=hX ▸ hT _
  have hE':EvD X' XP0 elt f:=hX ▸ hE _
  have fpok:∀ {H':Hp},(∀ b∈fp,H' b=none)->∀ b∈fp,FpOk X' [] H' b:=λ hn b hb=>by
    refine ⟨hn b hb,?_,?_,.inl (by rw [<- hX]; exact hb),?_,λ p hp=>by rw [<- hX] at hp; exact nomatch hp⟩
    · rw [<- hX]; exact Nat.ne_of_lt (Nat.lt_of_lt_of_le (hfp b hb) hCle)
    · rw [eF]
      intro z
      rcases List.mem_cons.mp (I.stkSub b z) with e | e
      · exact (hf b hb).2.1 e
      · exact (hf b hb).2.2.1 e
    · rw [eE]; exact λ y c' h=>(hf b hb).2.2.2.2.1 y c' (B.cl1 y c' h)
  obtain ⟨te,pe,qe⟩:=hE'
  have pg:PG X' (.Tuple [.Name x px,.Name x2 px2] tk tpos) (gTup X'.K 2 (gCons (gName 0) (gCons (gName 1) gNil))):=pg_tup eCa (pgs_cons (pg_name (by rw [eN]; exact B.nd) (by rw [eN]; rfl) (by rw [eE]; exact .inl (lookup_relabel_local B.var)) (by rw [eE]; exact .inr (lookup_relabel_local B.var)))
    (pgs_cons (pg_name (by rw [eN]; exact B.nd) (by rw [eN]; rfl) (by rw [eE]; exact .inl (lookup_relabel_local B.var2)) (by rw [eE]; exact .inr (lookup_relabel_local B.var2))) pgs_nil))
  have loop:∀ s₃:Shared,s₃={ s with heap:=h₁,toks:=s.toks + ([]:List (Str×Value)).length } ->
      codeAny (model X.prog X.w) X.A (.compLoop (.ListComp elt [⟨.Tuple [.Name x px,.Name x2 px2] tk tpos,iter,ifs,0⟩] scope pos) 0 (.ref it) (.ref s.heap.objs.size) (compEnvC scope cl H2.objs.size X.env)) (RR (.ref s.heap.objs.size) H2.objs.size) s₃:=by
    rintro s₃ rfl
    refine compLoop_own (λ n s'=>∃ (k:Nat) (sl sl2:Sl) (o o2:Option V) (H' G':Hp) (dn rs:List D),Inv X' [] (o::o2::some (V.ref s.heap.objs.size)::σ) H' s'/\tn k s'.heap/\(∀ b∈fp,H' b=none) /\
      Rep X.K H₀ G₀ (sl::sl2::.own dn::Γ) (o::o2::some (V.ref s.heap.objs.size)::σ) H' G'/\Ext H G H' G'/\compR2 c f Γ (ds.drop k)=.ok rs/\dn++rs=outs/\dn.length<=k/\k<=ds.length/\n + k=ds.length) ?_ ds.length
      ⟨0,.un,.un,none,none,_,G,[],outs,I0,T.keep _ _ _ st (λ b hb o e=>old b o e),λ b hb=>by
        rw [upd_ne (Nat.ne_of_lt (hfp b hb))]; exact (hf b hb).1,R0,E0,hc,rfl,Nat.zero_le _,Nat.zero_le _,rfl⟩
    rintro n s' ⟨k,sl,sl2,o,o2,H',G',dn,rs,I',st',fr',R',E',hc',ho,hdn,hkl,hn⟩
    have Yk:=Y k H' G' E'.gg E'.gh
    by_cases hk:k < ds.length
    · obtain ⟨d,hd,hdr⟩:=drop_at hk
      obtain ⟨go,yl⟩:=Yk.1 d hd
      rw [hdr] at hc'
      unfold compR2 at hc'
      obtain ⟨pr,epr,hc2⟩:=bind_ok' hc'
      clear hc'
      have epr:=pairD_eq (ofO_ok epr)
      subst epr
      have hc':=hc2
      clear hc2
      have it1:=T.item X' eP eW eK eCa k [] s' _ H' (λ _ _=>False) I' (fpok fr') st' go
      rw [eA] at it1
      refine wpAny_mono it1 (λ r s1 ⟨u,hr,h4⟩=>?_) λ _ _ z=>z
      subst hr
      refine wpAny_mono h4 (λ _ s5 ⟨xv,H5,I5,r5,y5,st5,fr5⟩=>?_) λ _ _ z=>z
      obtain ⟨G5,E5,d5⟩:=yl xv H5 y5
      have I5':=I5.pinned (fpok fr5) (T.obj _ _ st5)
      have R5:=R'.after E5
      obtain ⟨ta,tvs,q5,sq5,l5⟩:=den_tup.mp d5
      obtain ⟨v1,r1,e51,l51,l5⟩:=denL_cons.mp l5
      obtain ⟨v2,r2,e52,l52,l5⟩:=denL_cons.mp l5
      cases denL_nil.mp l5
      subst e52 e51
      have asg:=pg _ s5 _ H5 xv u (λ σ' H'=>σ'=some v1::some v2::some (V.ref s.heap.objs.size)::σ/\H'=H5) I5' r5 ⟨ta,_,q5,by rw [eK]; exact Same.seqT R5.gh sq5,rfl,v1,_,rfl,v2,[],rfl,rfl,rfl,rfl⟩
      rw [eP,eW,eA,eE,eX] at asg
      refine wpAny_mono asg (λ _ s6 ⟨σ6,H6,I6,q6,q6'⟩=>?_) λ _ _ z=>z
      subst q6 q6'
      have R6:Rep X.K H₀ G₀ (.val pr.1::.val pr.2::.own dn::Γ) (some v1::some v2::some (V.ref s.heap.objs.size)::σ) H6 G5:=(R5.setV 0 l51).setV 1 l52
      have R6u:Rep X'.K H₀ G₀ (.val pr.1::.val pr.2::.un::Γ) (some v1::some v2::some (V.ref s.heap.objs.size)::σ) H6 G5:=by
        rw [eK]
        refine R6.weak rfl λ i y h=>?_
        match i,h with
        | 0,h=>exact .inr h
        | 1,h=>exact .inr h
        | 2,h=>cases h; exact .inl rfl
        | i + 3,h=>exact .inr h
      obtain ⟨kb,ec,hc'⟩:=bind_ok' hc'
      have ec:=calm_ok ec
      have tst:=hT' _ s6 _ H6 _ _ _ _ _ I6 R6u ec
      rw [eP,eW,eA,eE,eX] at tst
      refine wpAny_mono tst (λ ok s7 ⟨hok,H7,G7,I7,E7⟩=>?_) λ _ _ z=>z
      subst hok
      have R7:=R6.after E7
      have back:∀ {s8:Shared} {H8:Hp} {G8:Hp} {dn' rs':List D},Inv X' (([]:List (Addr×Obj))++pinsAt fp s5.heap) (some v1::some v2::some (V.ref s.heap.objs.size)::σ) H8 s8->Rep X.K H₀ G₀ (.val pr.1::.val pr.2::.own dn'::Γ) (some v1::some v2::some (V.ref s.heap.objs.size)::σ) H8 G8->Ext H G H8 G8 ->
          compR2 c f Γ (ds.drop (k + 1))=.ok rs'->dn'++rs'=outs->dn'.length<=k + 1->∃ m,m < n/\∃ (k:Nat) (sl sl2:Sl) (o o2:Option V) (H' G':Hp) (dn rs:List D),Inv X' [] (o::o2::some (V.ref s.heap.objs.size)::σ) H' s8/\tn k s8.heap/\(∀ b∈fp,H' b=none) /\
            Rep X.K H₀ G₀ (sl::sl2::.own dn::Γ) (o::o2::some (V.ref s.heap.objs.size)::σ) H' G'/\Ext H G H' G'/\compR2 c f Γ (ds.drop k)=.ok rs/\dn++rs=outs/\dn.length<=k/\k<=ds.length/\m + k=ds.length:=λ {s8 H8 G8 dn' rs'} I8 R8 E8 c8 o8 l8=>by
        refine ⟨n - 1,by omega,k + 1,_,_,_,_,H8,G8,dn',rs',I8.unpinned,T.keep _ _ _ st5 λ b hb o e=>(I8.pin (b,o) (List.mem_append_right _ (List.mem_append_right _ (mem_pinsAt hb e)))).1,λ b hb=>?_,R8,E8,c8,o8,l8,by omega,by omega⟩
        obtain ⟨o,e,_⟩:=T.obj _ _ st5 b hb
        exact (I8.pin (b,o) (List.mem_append_right _ (List.mem_append_right _ (mem_pinsAt hb e)))).2.1
      have E57:Ext H G H7 G7:=E'.trans (E5.trans E7)
      cases ok with
      | false =>
        rw [if_neg Bool.false_ne_true]
        exact back I7 R7 E57 hc' ho (by omega)
      | true =>
        rw [if_pos rfl]
        obtain ⟨y,ey,hc'⟩:=bind_ok' hc'
        have ey:=calm_ok ey
        obtain ⟨r',er,hc'⟩:=bind_ok' hc'
        cases hc'
        have R7u:=R6u.after E7
        have ev:=pe _ s7 _ H7 (λ v H8=>∃ G8,Ext H7 G7 H8 G8/\Den X'.K G8 y v) I7 (qe _ _ _ _ _ _ R7u _ (by rw [ey]; exact λ v H8 G8 E8 d8=>⟨G8,E8,d8⟩))
        rw [eP,eW,eA,eE,eX] at ev
        refine wpAny_mono ev (λ yv s8 ⟨v8,H8,I8,r8,G8,E8,d8⟩=>?_) λ _ _ z=>z
        rw [eK] at d8
        have R8:=R7.after E8
        obtain ⟨a,vs,q1,q2,q3,q4,q5⟩:=R8.ow 2 dn rfl
        cases q1
        have ap:=mt_append (X:=X') _ s8 _ H8 (.ref s.heap.objs.size) [v8] _ _ (λ v H9=>v=.non/\H9=upd H8 s.heap.objs.size (.lst (vs++[v8]))) I8 rfl (.cons r8 .nil) ⟨_,vs,v8,rfl,rfl,q2,by rw [<- q5.length]; exact lt24 (by omega),rfl,rfl⟩
        rw [eP,eW,eA,eX] at ap
        refine wpAny_mono ap (λ _ s9 ⟨_,H9,I9,_,_,q9⟩=>?_) λ _ _ z=>z
        subst q9
        have tbl:Tbs H (upd H8 s.heap.objs.size (.lst (vs++[v8]))) G8:=λ b ps q=>by
          obtain ⟨ps',h1,h2⟩:=(E57.trans E8).tb b ps q
          exact ⟨ps',by rw [upd_ne (λ z=>by rw [z,hp] at q; cases q)]; exact h1,h2⟩
        refine back I9 (R8.mut (i:=2) rfl rfl (q5.append (.one d8))) ⟨(E57.trans E8).gg,λ b o q=>?_,⟨λ b o q n=>?_,λ b ps q=>let ⟨ps',h,_⟩:=tbl b ps q; ⟨ps',h⟩⟩,(E57.trans E8).fr,tbl⟩ er (by rw [List.append_assoc]; exact ho) (by rw [List.length_append,List.length_singleton]; omega)
        · rw [upd_ne (λ z=>by rw [z,q4] at q; cases q)]; exact E8.gh b o q
        · rw [upd_ne (λ z=>by rw [z,hp] at q; cases q)]; exact (E57.trans E8).hh.nt b o q n
    · have z:ds.drop k=[]:=List.drop_eq_nil_of_le (by omega)
      rw [z] at hc'
      cases hc'
      rw [List.append_nil] at ho
      subst ho
      have dn1:=T.done X' eP eW eK eCa k [] s' _ H' (λ _ _=>False) I' (fpok fr') st' (Yk.2 (by omega))
      rw [eA] at dn1
      refine wpAny_mono dn1 (λ r s1 ⟨hr,I1⟩=>?_) λ _ _ z=>z
      subst hr
      obtain ⟨a,vs,q1,q2,q3,q4,q5⟩:=R'.ow 2 dn rfl
      cases q1
      obtain ⟨m,hm,_⟩:=I1.loc
      have base:=I1.base
      rw [eF] at base
      refine hRR s.heap.objs.size H2.objs.size s1 H' G' vs m ?_ I1.bare ?_ ?_ hCle ?_ ?_ E' hp q2 q4 q5
      · have:=I1.os; rw [<- hX] at this; exact this
      · rw [<- hX] at base; exact base
      · have:=I1.hok; rw [eP,eW] at this; exact this
      · have:=I1.free; rw [eE] at this; exact this
      · rw [eE] at hm; exact hm
  exact codeAny_compStart_list (loop _ rfl) (T.self _ 0 _ _ _ (T.keep _ _ _ st λ b hb o e=>old b o e) (loop _ rfl))
end
section
variable {X:Cx} {scope:Scope} {cl:List (Str×Addr)} {x x2 y:Str} {px px2 py pos spos tpos:Pos} {tk:Nat} {elt iter:Expr} {ifs:List Expr} {c:Ga->R Bool} {f:Ga->R D} {fl:Ga->R (List D)}
noncomputable def cpR2 (fl:Ga->R (List D)) (c:Ga->R Bool) (f:Ga->R D):Ga->R (List D):=λ Γ=>(fl Γ).bind λ ds=>if ds.length < 16000000 then compR2 c f Γ ds else .no
theorem cp_want2 {Γ:Ga} {ds:List D} {E:Str->Prop} {P:List D->Prop} (h:R.want (if ds.length < 16000000 then compR2 c f Γ ds else .no) E P):∃ outs,ds.length < 16000000/\compR2 c f Γ ds=.ok outs/\P outs:=by
  split at h
  · rename_i hl
    cases q:compR2 c f Γ ds with
    | ok outs=>rw [q] at h; exact ⟨outs,hl,rfl,h⟩
    | ex z=>exact absurd q (compR2_calm c f Γ ds z)
    | no=>rw [q] at h; exact h.elim
  · exact h.elim
theorem ow_comp2 {W:XP} (B:BlkOk2 X scope cl x x2) (hcalm:X.calm=true) (hi:ItD X W (.Tuple [.Name x px,.Name x2 px2] tk tpos) iter fl) (hT:∀ C s H fp,TsD (blk2 X scope cl C x x2 s H fp) ifs c) (hE:∀ C s H fp,EvD (blk2 X scope cl C x x2 s H fp) XP0 elt f)
    (hs:∀ x,foldedSetIterable iter X.env x=pure x:=by intro _; rfl):OwD X W (.ListComp elt [⟨.Tuple [.Name x px,.Name x2 px2] tk tpos,iter,ifs,0⟩] scope pos) (cpR2 fl c f):=by
  obtain ⟨wi,pI,qI⟩:=hi
  refine ⟨λ σ H Q=>∃ (H₀ G₀:Hp) (Γ:Ga) (G:Hp),Rep X.K H₀ G₀ Γ σ H G/\(cpR2 fl c f Γ).want (exAt W σ H G) λ outs=>∀ p vs H' G',Ext H G H' G'->H p=none->H' p=some (.lst vs)->G' p=none->DenL X.K G' outs vs->Q (.ref p) H',?_,λ H₀ G₀ Γ σ H G R Q w=>⟨H₀,G₀,Γ,G,R,w⟩⟩
  rintro pins s σ H Q I ⟨H₀,G₀,Γ,G,R,w⟩
  rw [eval_ListComp]
  refine wpAny_comprehension_free (use:=none) rfl hs B.clos B.kind B.names ?_
  have h1:=pI pins s σ H (λ J H'=>∃ G' ds outs,Ext H G H' G'/\Yields X.K J G' ds/\ds.length < 16000000/\compR2 c f Γ ds=.ok outs/\∀ p vs H' G',Ext H G H' G'->H p=none->H' p=some (.lst vs)->G' p=none->DenL X.K G' outs vs->Q (.ref p) H') I
    (qI _ _ _ _ _ _ R _ (wStep w (λ _ h=>h) λ ds w J H' G' E1 y=>let ⟨outs,hl,e2,k⟩:=cp_want2 w; ⟨G',ds,outs,E1,y,hl,e2,k⟩))
  refine thn h1 λ xv s1 h1=>thn h1 λ itv s2 ⟨it,fp,tn,J,H2,e,I2,T,st,hf,G2,ds,outs,E2,y2,hl,e2,k⟩=>?_
  subst e
  refine comp_core2 (RR:=λ acc C=>compPost (model X.prog X.w) X.A X.xe none (EP X pins σ Q) acc C) B hcalm I2 (R.after E2) T st hf y2 (λ C=>hT _ _ _ _) (λ C=>hE _ _ _ _) e2 hl ?_
  intro Dd C s' H' G' vs m os bare un hok hC hCn hns E' hp h' g' l
  refine ⟨m,hns,λ h'' hsb=>?_⟩
  have I3:=turned_C I2 (after_block I2 hf os bare un hok) hC hCn hsb
  exact ⟨.ref Dd,H',I3,rfl,k Dd vs H' G' (E2.trans E') (E2.hh.free hp) h' g' l⟩
end
noncomputable def blkCheck2 (scope osc:Scope) (N keys:List Str) (x y:Str):Bool :=
  scope.kind == .function&&scope.names.all (λ y=>y.2 != .cell)&&scope.names.all (λ y=>y.2 != .local||scope.names.lookup y.1 == some .local)&&(scope.names.lookup x == some .local)&&(scope.names.lookup y == some .local) &&
  decide (blkN2 x y N).Nodup&&(relS scope osc).names.all (λ y=>!isCF ((relS scope osc).names.lookup y.1)||keys.contains y.1)&&!visB (relS scope osc) (accN N.length) &&
  N.all (λ z=>!visB (relS scope osc) z||(isCF ((relS scope osc).names.lookup z)&&isCF (osc.names.lookup z)))
theorem blk_mk2 {X:Cx} {scope:Scope} {cl:List (Str×Addr)} {x y:Str} (osc:Scope) (N keys:List Str) (e1:X.env.scope=osc) (e2:X.N=N) (clos:closureFor scope X.env=pure cl) (hk:keys.all (λ y=>(cl.map (·.1)).contains y)=true)
    (hc:∀ p∈cl,X.env.cells.lookup p.1=some p.2) (chk:blkCheck2 scope osc N keys x y=true):BlkOk2 X scope cl x y:=by
  subst e1 e2
  unfold blkCheck2 at chk
  simp only [Bool.and_eq_true] at chk
  obtain ⟨⟨⟨⟨⟨⟨⟨⟨c1,c2⟩,c3⟩,c4⟩,c4'⟩,c5⟩,c6⟩,c7⟩,c8⟩:=chk
  refine ⟨beq_iff_eq.mp c1,λ y hy=>?_,clos,λ y hy hl=>?_,beq_iff_eq.mp c4,beq_iff_eq.mp c4',of_decide_eq_true c5,λ y c h=>?_,λ y h=>?_,λ h=>?_,λ y hy hv=>?_⟩
  · exact bne_iff_ne.mp (List.all_eq_true.mp c2 y hy)
  · have:=List.all_eq_true.mp c3 y hy
    rw [hl] at this
    exact beq_iff_eq.mp (by simpa using this)
  · obtain ⟨p,hp,rfl,rfl⟩:=mem_of_lookup h
    exact hc p hp
  · have hcf:=isCF_of h
    rw [relS_eq] at hcf
    obtain ⟨k,hkk⟩:∃ k,(relS scope X.env.scope).names.lookup y=some k:=by
      rcases h with h | h
      · exact ⟨_,h⟩
      · exact ⟨_,h⟩
    obtain ⟨p,hp,rfl,_⟩:=mem_of_lookup hkk
    have:=List.all_eq_true.mp c6 p hp
    rw [hcf] at this
    exact lookup_of_key (List.all_eq_true.mp hk p.1 (List.contains_iff_mem.mp (by simpa using this)))
  · rw [relS_eq] at h
    rw [visB_of h] at c7
    cases c7
  · rw [relS_eq] at hv ⊢
    have:=List.all_eq_true.mp c8 y hy
    rw [visB_of hv] at this
    simp only [Bool.not_true,Bool.false_or,Bool.and_eq_true] at this
    exact ⟨isCF_iff this.1,isCF_iff this.2⟩
end Wy


namespace Wy
open PySem PySem.Spec PyProof.Rows L2
noncomputable def Itz (K:PySem.W.Frag) (l1 l2:Addr):It :=
  ⟨λ i H=>∃ xs ys x y,SqL K H l1 xs/\SqL K H l2 ys/\xs[i]?=some x/\ys[i]?=some y,
   λ i H x H'=>∃ p v1 v2,H p=none/\H'=upd H p (.tup [v1,v2])/\x=.ref p/\(∀ xs,SqL K H l1 xs->xs[i]?=some v1)/\∀ ys,SqL K H l2 ys->ys[i]?=some v2,
   λ i H=>∃ xs ys,SqL K H l1 xs/\SqL K H l2 ys/\(xs.length<=i∨ys.length<=i)⟩
section
variable {X:Cx} {pins:List (Addr×Obj)} {σ:L2.St} {H:Hp} {s:Shared}
theorem Inv.tupd {ch:List Addr} {x y:V} {u v:Value} {h':Heap} {t':Nat} (I:L2.Inv X pins σ H s) (hf:∀ b∈ch,FpOk X pins H b) (ru:RelV x u) (rv:RelV y v) (hp:h'.get? s.heap.objs.size=some { cls:=.type "tuple",data:=.seq #[u,v] })
    (kp:∀ b o,b∉ch->s.heap.get? b=some o->h'.get? b=some o):L2.Inv X pins σ (upd H s.heap.objs.size (.tup [x,y])) { s with heap:=h',toks:=t' }:=by
  have fr:H s.heap.objs.size=none:=I.fresh
  have ne:∀ b o,s.heap.get? b=some o->b≠s.heap.objs.size:=λ b o g=>Nat.ne_of_lt (Heap.lt_size g)
  have nh:∀ b o,H b=some o->b≠s.heap.objs.size:=λ b o g z=>by rw [z,fr] at g; cases g
  have nf:∀ b o,H b=some o->b∉ch:=λ b o g z=>by rw [(hf b z).1] at g; cases g
  refine I.step (g':=s.gens) (d':=s.drawn) (ch:=ch) (λ b hb=>?_) (λ b o _ _ hc g _=>kp b o hc g) (λ b o _ _ hc g _=>⟨o.slots,kp b o hc g⟩) (λ b o _ g n=>by rw [upd_ne (ne b o g)]; exact n)
    (λ b o hc g=>⟨o,kp b o hc g⟩) (λ b ys g=>by rw [upd_ne (nh b _ g)]; exact g) (λ b o ys g=>by rw [upd_ne (nh b _ g)]; exact g) (λ b ps g=>⟨#[],by rw [upd_ne (nh b _ g),g]; simp⟩) (λ m hm=>?_) (λ b o g=>?_) I.bare
  · exact ⟨(hf b hb).2.2.2.1,(hf b hb).2.1,(hf b hb).2.2.2.2.1,(hf b hb).2.2.2.2.2⟩
  · obtain ⟨o,es,ep,g,r⟩:=hm
    exact ⟨o,es,ep,kp _ o (λ z=>(hf _ z).2.1 rfl) g,r⟩
  · by_cases z:b=s.heap.objs.size
    · subst z
      rw [upd_same] at g
      cases g
      exact ⟨(by show 2<=sizeLine; decide),[u,v],.cons ru (.cons rv .nil),_,hp,rfl,_,rfl⟩
    · rw [upd_ne z] at g
      have keepH:∀ c o,H c=some o->upd H s.heap.objs.size (.tup [x,y]) c=some o:=λ c o gc=>by rw [upd_ne (nh c o gc)]; exact gc
      refine (I.hok b o g).stay (λ c v hc gv=>?_) (λ c gc=>keepH c _ gc) λ c ys gc=>keepH c _ gc
      rcases hc with z' | z'
      · subst z'; exact kp c v (nf c o g) gv
      · exact kp c v (nf c _ z') gv
theorem Inv.chd {ch:List Addr} {h':Heap} {t':Nat} (I:L2.Inv X pins σ H s) (hf:∀ b∈ch,FpOk X pins H b)
    (kp:∀ b o,b∉ch->s.heap.get? b=some o->h'.get? b=some o):L2.Inv X pins σ H { s with heap:=h',toks:=t' }:=by
  have nf:∀ b o,H b=some o->b∉ch:=λ b o g z=>by rw [(hf b z).1] at g; cases g
  refine I.step (g':=s.gens) (d':=s.drawn) (ch:=ch) (λ b hb=>?_) (λ b o _ _ hc g _=>kp b o hc g) (λ b o _ _ hc g _=>⟨o.slots,kp b o hc g⟩) (λ b o _ g n=>n)
    (λ b o hc g=>⟨o,kp b o hc g⟩) (λ b ys g=>g) (λ b o ys g=>g) (λ b ps g=>⟨#[],by rw [g]; simp⟩) (λ m hm=>?_) (λ b o g=>?_) I.bare
  · exact ⟨(hf b hb).2.2.2.1,(hf b hb).2.1,(hf b hb).2.2.2.2.1,(hf b hb).2.2.2.2.2⟩
  · obtain ⟨o,es,ep,g,r⟩:=hm
    exact ⟨o,es,ep,kp _ o (λ z=>(hf _ z).2.1 rfl) g,r⟩
  · refine (I.hok b o g).stay (λ c v hc gv=>?_) (λ c gc=>gc) λ c ys gc=>gc
    rcases hc with z' | z'
    · subst z'; exact kp c v (nf c o g) gv
    · exact kp c v (nf c _ z') gv
end
noncomputable def zipTn (z TI TO i1 i2 l1 l2:Addr) (i:Nat) (h:Heap):Prop :=
  IsZip h z TI TO .none/\IsPair h TI (.ref i1) (.ref i2)/\(∃ a b,IsPair h TO a b)/\h.IsListIter i1 l1 i/\h.IsListIter i2 l2 i
theorem turn_zip {P:Program} {w:World} {K:PySem.W.Frag} {elts:List Expr} {x1:Nat} {pos:Pos} (z TI TO i1 i2 l1 l2:Addr) (D:ZipApart z TI TO i1 i2 l1 l2) :
    Turn P w K (.Tuple elts x1 pos) (Itz K l1 l2) [z,TI,TO,i1,i2] z (zipTn z TI TO i1 i2 l1 l2) where
  mem:=by simp
  obj:=λ i h st b hb=>by
    obtain ⟨hz,hTI,⟨a,c,hTO⟩,⟨o1,g1,_,d1⟩,⟨o2,g2,_,d2⟩⟩:=st
    simp only [List.mem_cons,List.not_mem_nil,or_false] at hb
    rcases hb with e | e | e | e | e <;> rw [e]
    · exact ⟨_,hz,λ v q=>by cases q⟩
    · exact ⟨_,hTI,λ v q=>by cases q⟩
    · exact ⟨_,hTO,λ v q=>by cases q⟩
    · exact ⟨_,g1,λ v q=>by rw [d1] at q; cases q⟩
    · exact ⟨_,g2,λ v q=>by rw [d2] at q; cases q⟩
  keep:=λ i h h' st k=>by
    obtain ⟨hz,hTI,⟨a,c,hTO⟩,h1,h2⟩:=st
    exact ⟨k z (by simp) _ hz,k TI (by simp) _ hTI,⟨a,c,k TO (by simp) _ hTO⟩,h1.at λ o e=>k i1 (by simp) o e,h2.at λ o e=>k i2 (by simp) o e⟩
  item:=by
    intro X hP hw hK hc i pins s σ H E I hf st hg
    subst hP hw hK
    obtain ⟨hz,hTI,⟨a,c,hTO⟩,h1,h2⟩:=st
    obtain ⟨xs,ys,x,y,hq1,hq2,hx,hy⟩:=hg
    obtain ⟨its1,rv1,p1,_⟩:=I.list hq1
    obtain ⟨its2,rv2,p2,_⟩:=I.list hq2
    obtain ⟨u1,hu1,ru1⟩:=rv1.get hx
    obtain ⟨u2,hu2,ru2⟩:=rv2.get hy
    refine wpAny_pyNext_zip_item D hz hTI hTO h1 h2 p1.isList p2.isList (x:=u1) (y:=u2) (by simpa using hu1) (by simpa using hu2) λ h' a1 a2 a3 a4 a5 a6 hk=>?_
    refine ⟨_,rfl,wpAny_letOwnedTupleGo_zip (s:={ s with heap:=h' }) a1 λ h'' hz' sb=>?_⟩
    have sb:Heap.SameBut z h' h'':=sb
    have lz:z < s.heap.objs.size:=Heap.lt_size hz
    have lt:∀ b∈[z,TI,TO,i1,i2],b≠s.heap.objs.size:=λ b hb=>by
      simp only [List.mem_cons,List.not_mem_nil,or_false] at hb
      obtain ⟨o1,g1,_⟩:=h1
      obtain ⟨o2,g2,_⟩:=h2
      rcases hb with e | e | e | e | e <;> rw [e]
      · exact Nat.ne_of_lt lz
      · exact Nat.ne_of_lt (Heap.lt_size hTI)
      · exact Nat.ne_of_lt (Heap.lt_size hTO)
      · exact Nat.ne_of_lt (Heap.lt_size g1)
      · exact Nat.ne_of_lt (Heap.lt_size g2)
    refine ⟨.ref s.heap.objs.size,upd H s.heap.objs.size (.tup [x,y]),Inv.tupd (ch:=[z,TI,TO,i1,i2]) (t':=s.toks) I hf ru1 ru2 ((sb.2 _ (Nat.ne_of_gt lz)).trans a5) (λ b o hb g=>?_),rfl,
      ⟨_,x,y,I.fresh,rfl,rfl,λ zs h=>?_,λ zs h=>?_⟩,⟨hz',(sb.2 _ D.TIz).trans (hk _ _ D.TIz D.TITO D.TIi1 D.TIi2 hTI),⟨_,_,(sb.2 _ D.TOz).trans a2⟩,a3.at λ o e=>(sb.2 _ D.i1z).trans e,a4.at λ o e=>(sb.2 _ D.i2z).trans e⟩,λ b hb=>?_⟩
    · simp only [List.mem_cons,List.not_mem_nil,or_false,not_or] at hb
      exact (sb.2 b hb.1).trans (hk b o hb.1 hb.2.2.1 hb.2.2.2.1 hb.2.2.2.2 g)
    · rw [I.list_inj h hq1]; exact hx
    · rw [I.list_inj h hq2]; exact hy
    · rw [upd_ne (lt b hb)]; exact (hf b hb).1
  done:=by
    intro X hP hw hK hc i pins s σ H E I hf st hg
    subst hP hw hK
    obtain ⟨hz,hTI,⟨a,c,hTO⟩,h1,h2⟩:=st
    obtain ⟨xs,ys,hq1,hq2,hx⟩:=hg
    obtain ⟨its1,rv1,p1,_⟩:=I.list hq1
    obtain ⟨its2,rv2,p2,_⟩:=I.list hq2
    have e1:=rv1.length
    have e2:=rv2.length
    refine wpAny_pyNext_zip_end (I.ok.hd hc) D hz hTI hTO h1 h2 p1.isList p2.isList (hx.imp (λ q=>by simp; omega) λ q=>by simp; omega) λ h' hk=>⟨rfl,?_⟩
    refine Inv.chd (ch:=[z,TI,TO,i1,i2]) (t':=s.toks) I hf λ b o hb g=>?_
    simp only [List.mem_cons,List.not_mem_nil,or_false,not_or] at hb
    exact hk b o hb.1 hb.2.2.1 hb.2.2.2.1 hb.2.2.2.2 g
  self:=λ _ _ _ _ _ st h=>wpAny_pyIter_zip st.1 h
section
variable {X:Cx} {W:XP} {a b:Expr} {fl:Ga->R (List D)} {p pos tpos:Pos} {elts:List Expr} {x1:Nat}
noncomputable def iZipT (K:PySem.W.Frag) (ta:TA):TI:=λ σ H R=>ta σ H λ vs H1=>∃ l1 l2,vs=[.ref l1,.ref l2]/\(∃ xs,SqL K H1 l1 xs)/\(∃ ys,SqL K H1 l2 ys)/\R (Itz K l1 l2) H1
theorem pi_zip {ta:TA} (hg:Gl X "zip") (hm:X.mg "zip"=none) (ha:PA X [a,b] ta) (hs:starEach [a,b] X.env=[(false,eval a X.env),(false,eval b X.env)]:=by rfl) (hs2:starEach [b] X.env=[(false,eval b X.env)]:=by rfl):PI X (.Tuple elts x1 tpos) (.Call (.Name "zip" p) [a,b] [] pos) (iZipT X.K ta):=by
  intro pins s σ H R I h
  refine Call_ (ld_blt I hg hm boot_zip (PyProof.Rows.callWith_type1 (thn (ha pos pins s σ H _ I h) λ us s1 ⟨vs,H1,I1,r1,q1⟩=>?_) (by rw [hs,hs2]) (by rw [hs2]; rfl)))
  obtain ⟨l1,l2,rfl,⟨xs,hq1⟩,⟨ys,hq2⟩,hR⟩:=q1
  obtain ⟨u1,t,rfl,ru1,r2⟩:∃ u t,us=u::t/\RelV (V.ref l1) u/\Vals [V.ref l2] t:=by
    cases r1 with
    | cons r rr=>exact ⟨_,_,rfl,r,rr⟩
  obtain ⟨u2,rfl,ru2⟩:=r2.one
  obtain rfl:u1=Value.ref l1:=ru1
  obtain rfl:u2=Value.ref l2:=ru2
  obtain ⟨its1,rv1,p1,_⟩:=I1.list hq1
  obtain ⟨its2,rv2,p2,_⟩:=I1.list hq2
  refine call_zip_2 p1.isList p2.isList λ h' a1 a2 a3 a4 a5 a6 kp=>?_
  refine wpAny_pyIter_zip (s:={ s1 with heap:=h' }) a1 ?_
  have L1:l1 < s1.heap.objs.size:=by obtain ⟨o,g,_⟩:=p1.isList; exact Heap.lt_size g
  have L2:l2 < s1.heap.objs.size:=by obtain ⟨o,g,_⟩:=p2.isList; exact Heap.lt_size g
  refine ⟨s1.heap.objs.size + 4,[s1.heap.objs.size + 4,s1.heap.objs.size + 2,s1.heap.objs.size + 3,s1.heap.objs.size,s1.heap.objs.size + 1],_,_,H1,rfl,I1.kept (t':=s1.toks) kp,turn_zip _ _ _ _ _ l1 l2 ?_,⟨a1,a2,⟨_,_,a3⟩,a4,a5⟩,λ b hb=>?_,hR⟩
  · have m1:∀ k,l1≠s1.heap.objs.size + k:=λ k=>Nat.ne_of_lt (Nat.lt_of_lt_of_le L1 (Nat.le_add_right _ _))
    have m2:∀ k,l2≠s1.heap.objs.size + k:=λ k=>Nat.ne_of_lt (Nat.lt_of_lt_of_le L2 (Nat.le_add_right _ _))
    constructor <;> first | exact m1 _ | exact m2 _ | exact Nat.ne_of_lt L1 | exact Nat.ne_of_lt L2 | exact Nat.ne_of_lt (by omega) | exact Nat.ne_of_gt (by omega)
  · simp only [List.mem_cons,List.not_mem_nil,or_false] at hb
    have le:s1.heap.objs.size<=b:=by rcases hb with e | e | e | e | e <;> (rw [e]; first | exact Nat.le_refl _ | exact Nat.le_add_right _ _)
    exact I1.fpOk le (I1.hok.fresh le)
noncomputable def zipD:List D->Option (List D)
  | [.lst xs,.lst ys]=>some (List.zipWith (λ a b=>D.tup [a,b]) xs ys)
  | _=>none
noncomputable def iZ (fl:Ga->R (List D)):Ga->R (List D):=λ Γ=>(fl Γ).bind λ d=>.ofO (zipD d)
theorem it_zip (hg:Gl X "zip") (hm:X.mg "zip"=none) (he:AvD X W [a,b] fl) (hs:starEach [a,b] X.env=[(false,eval a X.env),(false,eval b X.env)]:=by rfl) (hs2:starEach [b] X.env=[(false,eval b X.env)]:=by rfl) :
    ItD X W (.Tuple elts x1 tpos) (.Call (.Name "zip" p) [a,b] [] pos) (iZ fl):=by
  obtain ⟨t,pe,_,q⟩:=he
  refine ⟨_,pi_zip hg hm pe hs hs2,λ H₀ G₀ Γ σ H G R Q w=>?_⟩
  refine q _ _ _ _ _ _ R _ (wStep w (λ _ h=>h) λ d w vs H' G' E1 d1=>?_)
  obtain ⟨ds,e2,k⟩:=wOfO w
  unfold zipD at e2
  split at e2
  · rename_i xs ys
    cases e2
    obtain ⟨v1,r1,rfl,da,db⟩:=denL_cons.mp d1
    obtain ⟨v2,r2,rfl,dc,dd⟩:=denL_cons.mp db
    cases denL_nil.mp dd
    obtain ⟨l1,vs1,rfl,s1,m1⟩:=den_lst.mp da
    obtain ⟨l2,vs2,rfl,s2,m2⟩:=den_lst.mp dc
    refine ⟨l1,l2,rfl,⟨_,E1.gh.seq s1⟩,⟨_,E1.gh.seq s2⟩,k _ H' G' E1 λ i H2 G2 g2 h2=>⟨λ d hd=>?_,λ hi=>⟨vs1,vs2,(g2.trans h2).seq s1,(g2.trans h2).seq s2,?_⟩⟩⟩
    · rw [List.getElem?_zipWith] at hd
      split at hd
      · rename_i x y hx hy
        cases hd
        obtain ⟨v,hv,dv⟩:=m1.get hx
        obtain ⟨v',hv',dv'⟩:=m2.get hy
        refine ⟨⟨vs1,vs2,v,v',(g2.trans h2).seq s1,(g2.trans h2).seq s2,hv,hv'⟩,λ x H3 ⟨p,w1,w2,hp,eH,ex,h1,h2'⟩=>?_⟩
        have q1:=h1 vs1 ((g2.trans h2).seq s1)
        rw [hv] at q1
        cases q1
        have q2:=h2' vs2 ((g2.trans h2).seq s2)
        rw [hv'] at q2
        cases q2
        subst eH ex
        have A:=Ext.alloc (o:=.tup [v,v']) h2 hp
        exact ⟨_,A,den_tup.mpr ⟨p,_,rfl,SqT.of upd_same,denL_cons.mpr ⟨_,_,rfl,(dv.up g2).up A.gg,.one ((dv'.up g2).up A.gg)⟩⟩⟩
      · cases hd
    · rw [List.length_zipWith] at hi
      rw [<- m1.length,<- m2.length]
      omega
  · cases e2
end
end Wy


namespace Wy
open PySem PySem.Spec PyProof.Rows L2
section
variable {P:Program} {w:World} {K:PySem.W.Frag} {mg:Str->Option Value} {base:Heap}
theorem fn_R1c {x qual:Str} {st:Stmt} {f:Addr} {fd:FuncData} {N ps:List Str} {k:Nat} {S:Ga->RS} (Fn:Fun K x qual st f fd) (Sc:FnScope N ps (defScope st))
    (B:∀ (cdv:Value),fd.code=cdv->∀ (A:Around) (outer:List Env) (s:Shared) (H:Hp) (W:XP) (E:XK),Room k (A.deeper (envOfC qual (defScope st) s.heap.objs.size f cdv)) ->
      ExDs ((cxOf (CX1 P w) P w K mg base N qual (defScope st) f cdv A outer s H E).xw W) W (defBody st) S) :
    FnOk P w K mg base (CX1 P w) (k + 1) f fd ps (spF K mg ps.length λ ds=>callR N S ds):=by
  obtain ⟨oc,od,kV,doc,pm,an,cdv,ct,osl,rfl,lk,hcd⟩:=Fn.ex
  refine fn_of lk hcd Sc (λ vs H Q E h=>?_) λ A outer s H vs Q E hr h=>?_
  · obtain ⟨G,ds,_,_,l,hl,_⟩:=h
    exact l.length.symm.trans hl
  · obtain ⟨G,ds,g,tb,l,hl,q⟩:=h
    obtain ⟨t,p,hd⟩:=B cdv rfl A outer s H (λ c _ H' G'=>Ext H G H' G'/\∀ cls,ClsIs K c cls->E cls none H') E hr
    refine ⟨t,pss_wish p ?_,hd H G _ _ H G (rep_begin g tb l) _ ?_⟩
    · rintro e s' ⟨ea,σ,H',G',c,C,rfl,I,hc,⟨_,hw⟩,x⟩
      have Dc:DefCx (cxOf (CX1 P w) P w K mg base N qual (defScope st) f cdv A outer s H E):=⟨rfl,rfl,rfl⟩
      show wpAny _ _ (leaving _ (.ref ea)) _ _ s'
      unfold leaving
      refine wpAny_bind (note_ok (X:=cxOf (CX1 P w) P w K mg base N qual (defScope st) f cdv A outer s H E) Dc I x λ s1 I1 x1=>?_)
      refine flight_ok (X:=cxOf (CX1 P w) P w K mg base N qual (defScope st) f cdv A outer s H E) (o:=none) I1 x1 rfl λ s2 I2 x2=>?_
      have young:∀ b,Fp (cxOf (CX1 P w) P w K mg base N qual (defScope st) f cdv A outer s H E) [] H' b->s.heap.get? b=none/\H' b=none:=λ b hb=>⟨hb.new,hb.fr⟩
      exact ⟨ea,C,H',rfl,I2.os,I2.bare,I2.base,I2.hok,hw _ ⟨C,rfl,hc⟩,x2.at young (.inl rfl)⟩
    · unfold callR at q
      dsimp only at q
      cases hS:S (begin_ N ds) with
      | rt d=>rw [hS] at q; exact λ v H' G' e dv=>q v H' G' e dv
      | nx Γ=>rw [hS] at q; exact λ σ H' G' R=>q _ H' G' R.ex den_non
      | bk Γ=>rw [hS] at q; exact q.elim
      | ct Γ=>rw [hS] at q; exact q.elim
      | ex c Γ=>rw [hS] at q; exact λ σ H' G' R=>⟨R.ex,λ cls hcls=>q cls none H' G' hcls R.ex⟩
      | no=>rw [hS] at q; exact q.elim
end
theorem tab_code {K:PySem.W.Frag} {x:Str} {c P f:Addr} {oc:Value} {od:Option Addr} {fd0 fd:FuncData} {sl:Array (Option Value)} {st:Stmt} (ht:PySem.W.tabIn K x=some (c,P)) (a:PySem.W.nsIn K mainGlobals x=some (some (.ref f))) (F:Fun K x x st f fd)
    (l:K.lookup f=some ⟨oc,od,.func fd0,sl⟩):fd.code=.ref c:=by
  obtain ⟨oc1,od1,kV,doc,pm,an,cdv,ct,osl,e1,lk,_⟩:=F.ex
  unfold PySem.W.tabIn at ht
  rw [a] at ht
  dsimp only at ht
  rw [lk] at ht
  dsimp only at ht
  split at ht
  · rename_i c1 hc
    split at ht
    · split at ht
      · cases ht; exact hc
      · cases ht
    · cases ht
  · cases ht
noncomputable def tabOk (q:Program) (K:PySem.W.Frag) (y:Str):Bool:=match PySem.W.tabIn K y with
  | none=>true
  | some (_,P)=>(K.lookup P).isNone&&((recsOf q).find? (λ e=>e.name == y)).isSome
theorem tabs0_of {q:Program} {K:PySem.W.Frag} {lo:List Str} {mean:ExcName->Option Value} {mg mb:Str->Option Value} {h:Heap} (T:Top q lo mean mg mb h) (X:K.In h) (hk:∀ y∈LAMS,tabOk q K y=true):Tabs0 K h:=λ y hy c P ht=>by
  have q1:=hk y hy
  unfold tabOk at q1
  rw [ht] at q1
  obtain ⟨q2,q3⟩:=Bool.and_eq_true_iff.mp q1
  obtain ⟨d,hd⟩:=Option.isSome_iff_exists.mp q3
  exact ⟨PySem.W.tab_of T X hd ht,Option.isNone_iff_eq_none.mp q2⟩
theorem tabs_one {q:Program} {K:PySem.W.Frag} (h:(LAMS.all λ y=>tabOk q K y)=true):∀ y∈LAMS,tabOk q K y=true:=λ y hy=>List.all_eq_true.mp h y hy
end Wy


namespace Wy
open PySem PySem.Spec PyProof.Rows L2
noncomputable def Ris (xs:Array Nat):Prop:=∀ (i k:Nat) (hi:i < xs.size) (hk:k < xs.size),i < k->xs[i] < xs[k]
theorem below_go (xs:Array Nat) (hr:Ris xs) (j:Nat):∀ (fuel lo hi:Nat),lo<=hi->hi<=xs.size->hi - lo<=fuel->(∀ i (h:i < xs.size),i < lo->xs[i] < j)->(∀ i (h:i < xs.size),hi<=i->j<=xs[i]) ->
    SetTable.below.go xs j fuel lo hi<=xs.size/\(∀ i (h:i < xs.size),i < SetTable.below.go xs j fuel lo hi->xs[i] < j)/\(∀ i (h:i < xs.size),SetTable.below.go xs j fuel lo hi<=i->j<=xs[i]):=by
  intro fuel
  induction fuel with
  | zero =>
    intro lo hi h1 h2 h3 h4 h5
    have e:lo=hi:=by omega
    subst e
    exact ⟨h2,h4,h5⟩
  | succ fuel ih =>
    intro lo hi h1 h2 h3 h4 h5
    rw [SetTable.below.go]
    by_cases hlt:lo < hi
    · rw [if_pos hlt]
      have hm:(lo + hi) / 2 < xs.size:=by omega
      have e:xs.getD ((lo + hi) / 2) j=xs[(lo + hi) / 2]:=by
        rw [Array.getD,dif_pos hm]; rfl
      dsimp only
      rw [e]
      by_cases hc:xs[(lo + hi) / 2] < j
      · rw [if_pos hc]
        refine ih _ _ (by omega) h2 (by omega) (λ i hi' hlt'=>?_) h5
        by_cases he:i=(lo + hi) / 2
        · subst he; exact hc
        · exact Nat.lt_trans (hr i ((lo + hi) / 2) hi' hm (by omega)) hc
      · rw [if_neg hc]
        refine ih _ _ (by omega) (by omega) (by omega) h4 (λ i hi' hle=>?_)
        by_cases he:i=(lo + hi) / 2
        · subst he; omega
        · exact Nat.le_trans (Nat.le_of_not_lt hc) (Nat.le_of_lt (hr ((lo + hi) / 2) i hm hi' (by omega)))
    · rw [if_neg hlt]
      have e:lo=hi:=by omega
      subst e
      exact ⟨h2,h4,h5⟩
theorem below_spec (xs:Array Nat) (hr:Ris xs) (j:Nat):SetTable.below xs j<=xs.size/\(∀ i (h:i < xs.size),i < SetTable.below xs j->xs[i] < j)/\(∀ i (h:i < xs.size),SetTable.below xs j<=i->j<=xs[i]) :=
  below_go xs hr j _ _ _ (Nat.zero_le _) (Nat.le_refl _) (by omega) (λ i _ h=>absurd h (Nat.not_lt_zero _)) λ i h h'=>absurd h (by omega)
theorem below_next (xs:Array Nat) (hr:Ris xs) (i:Nat) (h:i < xs.size):SetTable.below xs (xs[i] + 1)=i + 1:=by
  obtain ⟨h1,h2,h3⟩:=below_spec xs hr (xs[i] + 1)
  rcases Nat.lt_trichotomy (SetTable.below xs (xs[i] + 1)) (i + 1) with hl | hl | hl
  · have:=h3 i h (by omega); omega
  · exact hl
  · have hi1:i + 1 < xs.size:=by omega
    have q:=h2 (i + 1) hi1 (by omega)
    have:=hr i (i + 1) h hi1 (by omega)
    omega
theorem below_zero (xs:Array Nat) (hr:Ris xs):SetTable.below xs 0=0:=by
  obtain ⟨h1,h2,h3⟩:=below_spec xs hr 0
  rcases Nat.eq_zero_or_pos (SetTable.below xs 0) with h | h
  · exact h
  · exact absurd (h2 0 (by omega) h) (Nat.not_lt_zero _)
theorem ris_list {l:List Nat} (h:l.Pairwise (· < ·)):Ris l.toArray:=λ i k hi hk hlt=>by
  simp only [List.getElem_toArray]
  exact List.pairwise_iff_getElem.mp h i k (by simpa using hi) (by simpa using hk) hlt
theorem ris_pw {xs:Array Nat} (h:Ris xs):xs.toList.Pairwise (· < ·):=List.pairwise_iff_getElem.mpr λ i k hi hk hlt=>by
  simp only [Array.getElem_toList]
  exact h i k (by simpa using hi) (by simpa using hk) hlt
theorem ris_insert {xs:Array Nat} (hr:Ris xs) {j:Nat} (hn:¬ (xs[SetTable.below xs j]?=some j)):Ris (SetTable.insertAt xs (SetTable.below xs j) j):=by
  obtain ⟨h1,h2,h3⟩:=below_spec xs hr j
  have e:SetTable.insertAt xs (SetTable.below xs j) j=(xs.toList.take (SetTable.below xs j)++j::xs.toList.drop (SetTable.below xs j)).toArray:=by
    apply Array.toList_inj.mp
    rw [SetTable.toList_insertAt]
  rw [e]
  have pw:=ris_pw hr
  refine ris_list (List.pairwise_append.mpr ⟨pw.sublist (List.take_sublist _ _),List.pairwise_cons.mpr ⟨λ a ha=>?_,pw.sublist (List.drop_sublist _ _)⟩,λ a ha b hb=>?_⟩)
  · obtain ⟨i,hi,rfl⟩:=List.mem_iff_getElem.mp ha
    rw [List.getElem_drop]
    have hsz:SetTable.below xs j + i < xs.size:=by
      have:=hi; rw [List.length_drop] at this; simp at this; omega
    have q:=h3 (SetTable.below xs j + i) hsz (by omega)
    simp only [Array.getElem_toList]
    rcases Nat.lt_or_eq_of_le q with h | h
    · exact h
    · exfalso
      rcases Nat.eq_zero_or_pos i with z | z
      · subst z
        simp only [Nat.add_zero] at h hsz
        exact hn (by rw [Array.getElem?_eq_getElem hsz,<- h])
      · have hb:SetTable.below xs j < xs.size:=by omega
        have q1:=h3 (SetTable.below xs j) hb (Nat.le_refl _)
        have q2:=hr (SetTable.below xs j) (SetTable.below xs j + i) hb hsz (by omega)
        omega
  · obtain ⟨i,hi,rfl⟩:=List.mem_iff_getElem.mp ha
    rw [List.getElem_take]
    have hi':i < SetTable.below xs j/\i < xs.size:=by
      have:=hi; rw [List.length_take] at this; simp at this; omega
    have q:=h2 i hi'.2 hi'.1
    simp only [Array.getElem_toList]
    rcases List.mem_cons.mp hb with rfl | hb
    · exact q
    · obtain ⟨k,hk,rfl⟩:=List.mem_iff_getElem.mp hb
      rw [List.getElem_drop]
      have hsz:SetTable.below xs j + k < xs.size:=by
        have:=hk; rw [List.length_drop] at this; simp at this; omega
      have:=h3 (SetTable.below xs j + k) hsz (by omega)
      simp only [Array.getElem_toList]
      omega
structure TOk (led:Bool) (t:SetTable):Prop where
  ris:Ris t.place
  dum:t.dummies=#[]
  led:t.led=led
theorem has_nil (j:Nat):SetTable.has #[] j=false:=by
  unfold SetTable.has
  rw [beq_eq_false_iff_ne]
  intro h
  simp at h
theorem tok_fresh (led:Bool):TOk led (.fresh 0 0 led):=⟨λ i k hi=>absurd hi (by simp [SetTable.fresh]),rfl,rfl⟩
theorem tok_standIn {led:Bool} {t:SetTable} (h:TOk led t) (n:Nat):TOk led (t.standIn n):=⟨by
  unfold SetTable.standIn
  dsimp only
  have:(Array.range n)=(List.range n).toArray:=by simp
  rw [this]
  exact ris_list (List.pairwise_lt_range),rfl,h.led⟩
theorem tok_orStandIn {led:Bool} {t:SetTable} (h:TOk led t) (n:Nat):TOk led (t.orStandIn n):=by
  unfold SetTable.orStandIn
  split
  · exact h
  · exact tok_standIn h n
theorem tok_plain {led:Bool} {t:SetTable} (h:TOk led t) (b:Bool):TOk led { t with plain:=b }:=⟨h.ris,h.dum,h.led⟩
theorem probe_empty {led:Bool} {t:SetTable} (h:TOk led t) {ha:Nat->Int} {hh:Int}:∀ (fuel:Nat) (p:SetTable.Probe) (j:Nat) (d:Option Nat),p.dummy=none->SetTable.probe.go t ha hh fuel p=some (.empty j d)->d=none/\¬ (t.place[SetTable.below t.place j]?=some j)
  | 0,p,j,d,_,e=>by cases e
  | fuel + 1,p,j,d,hd,e=>by
    unfold SetTable.probe.go at e
    have nd:∀ x,t.slot x≠.dummy:=λ x z=>by
      unfold SetTable.slot at z
      rw [h.dum] at z
      dsimp only at z
      rw [has_nil] at z
      split at z
      · cases z
      · simp at z
    split at e
    · rename_i hs
      cases e
      refine ⟨hd,λ z=>?_⟩
      unfold SetTable.slot at hs
      dsimp only at hs
      rw [z] at hs
      simp at hs
    · rename_i hs
      exact absurd hs (nd _)
    · split at e
      · cases e
      · refine probe_empty h fuel _ j d ?_ e
        unfold SetTable.advance
        split
        · exact hd
        · exact hd
theorem tok_layNew {led:Bool} {t:SetTable} (h:TOk led t) (es:Array (Int×Value)) (hs:Int) (x:Value):TOk led (layNew t es hs x).2.1:=by
  unfold layNew
  split
  · rename_i slot wd hf
    unfold SetTable.freeSlot at hf
    split at hf
    · rename_i j dummy hp
      obtain ⟨rfl,hn⟩:=probe_empty h _ _ j dummy rfl hp
      cases hf
      refine tok_orStandIn ?_ _
      unfold SetTable.put
      refine ⟨ris_insert h.ris hn,?_,h.led⟩
      show (if SetTable.has t.dummies _=true then _ else t.dummies)=#[]
      rw [h.dum,has_nil]
      rfl
    · cases hf
  · exact tok_standIn h _
theorem tok_relayAll {led:Bool} {t:SetTable} (h:TOk led t) (es:Array (Int×Value)) (n:Nat):TOk led (relayAll t es n).2.1:=by
  unfold relayAll
  split
  · rename_i t' order hr
    dsimp only
    split
    · unfold SetTable.relaid SetTable.laid at hr
      cases hl:SetTable.layClean (SetTable.sizeAbove n - 1) (es.map (·.1)) with
      | none=>rw [hl] at hr; cases hr
      | some owner =>
        rw [hl] at hr
        cases hr
        refine ⟨?_,rfl,h.led⟩
        refine ris_list ?_
        have:∀ (l:List Nat),l.Pairwise (· < ·)->((l.filterMap λ j=>(owner.getD j none).map (j,·)).map (·.1)).Pairwise (· < ·):=λ l hl=>by
          refine hl.sublist ?_
          induction l with
          | nil=>exact .slnil
          | cons a l ih =>
            have ih:=ih (List.pairwise_cons.mp hl).2
            rw [List.filterMap_cons]
            cases owner.getD a none with
            | none=>exact ih.cons _
            | some b=>exact ih.cons₂ _
        exact this _ List.pairwise_lt_range
    · exact tok_standIn h _
  · exact tok_standIn h _
end Wy


namespace Wy
open PySem PySem.Spec PyProof.Rows L2
section
variable {prog:Program} {w:World} {K:Type} [DecidableEq K] (knd:PySem.KeyKind prog w K)
noncomputable def SetR (h:Heap) (a:Addr) (led:Bool) (es:Array (Int×Value)):Prop :=
  ∃ ep t,h.get? a=some { cls:=.type "set",dict:=none,data:=.set es ep t }/\ElemsOf knd es.toList/\es.size < scanBound/\t.fits es.size=true/\TOk led t
variable {knd}
variable {A:Around} {E:Value->Shared->Prop} {s:Shared} {led:Bool}
theorem setR_store {h:Heap} {a:Addr} {es es':Array (Int×Value)} {ep:Nat} {t t':SetTable} (ho:h.get? a=some { cls:=.type "set",dict:=none,data:=.set es ep t }) :
    (h.update a (Obj.putSet es' t')).get? a=some { cls:=.type "set",dict:=none,data:=.set es' (ep + 1) t' }:=by
  have:=Heap.get?_update_self (Obj.putSet es' t') ho (by rw [putSet_of es' t' rfl]; rfl)
  rw [putSet_of es' t' rfl] at this; exact this
theorem addTailR {g:Bool->Sem Unit} (hg:∀ (b:Bool) (s₁:Shared) (Q':Unit->Shared->Prop),Q' () s₁->wpAny (model prog w) A (g b) Q' E s₁)
    {a:Addr} {es:Array (Int×Value)} {ep:Nat} {t:SetTable} (ho:s.heap.get? a=some { cls:=.type "set",dict:=none,data:=.set es ep t })
    {es1:Array (Int×Value)} {t2:SetTable} (hel1:ElemsOf knd es1.toList)
    (hb1:es1.size < scanBound) (hf2:t2.fits es1.size=true) (ht2:TOk led t2) {wasDummy:Bool} {R:Option Bool->Shared->Prop}
    (h:∀ h' es',Heap.SameBut a s.heap h'->SetR knd h' a led es'->es'.toList.Perm es1.toList->R (some true) { s with heap:=h' }) :
    wpAny (model prog w) A (do
        storeSet a es1 t2
        if (!wasDummy&&t2.tooFull)=true then do
            g (relayAll t2 es1 (SetTable.grown es1.size)).2.2
            storeSet a (relayAll t2 es1 (SetTable.grown es1.size)).1 (relayAll t2 es1 (SetTable.grown es1.size)).2.1
            pure (some true)
          else pure (some true)) R E s:=by
  refine wpAny_bind (wpAny_storeSet_of ho rfl ?_ (fits_of_scanBound hb1))
  have ho1:=setR_store (es':=es1) (t':=t2) ho
  have hsb1:=Heap.SameBut.update s.heap a (Obj.putSet es1 t2)
  split
  · have hp:=relayAll_perm t2 es1 (SetTable.grown es1.size)
    have hfr:=relayAll_fits t2 es1 (SetTable.grown es1.size)
    have htr:=tok_relayAll ht2 es1 (SetTable.grown es1.size)
    generalize hRl:relayAll t2 es1 (SetTable.grown es1.size)=Rl at hp hfr htr ⊢
    obtain ⟨es2,t3,gave2⟩:=Rl
    dsimp only at hp hfr htr ⊢
    have hsz:es2.size=es1.size:=by rw [<- Array.length_toList,hp.length_eq,Array.length_toList]
    have hb2:es2.size < scanBound:=by rw [hsz]; exact hb1
    refine wpAny_bind (hg _ _ _ ?_)
    refine wpAny_bind (wpAny_storeSet_of ho1 rfl ?_ (fits_of_scanBound hb2))
    have ho2:=setR_store (es':=es2) (t':=t3) ho1
    exact wpAny_pure (h _ es2 (hsb1.trans (Heap.SameBut.update _ a _)) ⟨_,t3,ho2,hel1.perm hp,hb2,hfr,htr⟩ hp)
  · exact wpAny_pure (h _ es1 hsb1 ⟨_,t2,ho1,hel1,hb1,hf2,ht2⟩ (List.Perm.refl _))
theorem setAddR {a:Addr} {es:Array (Int×Value)} {k:K} {x:Value} {Q:Bool->Shared->Prop} (hkey:knd.is k x=true) (hsc:x.scannable=true) (hS:SetR knd s.heap a led es)
    (hroom:es.size + 1 < scanBound)
    (h:∀ h' es' b,Heap.SameBut a s.heap h'->SetR knd h' a led es'->((∃ e∈es.toList,knd.is k e.2=true)/\es'=es∨(∀ e∈es.toList,knd.is k e.2=false)/\es'.toList.Perm (es.toList++[(knd.hash k,x)]))->Q b { s with heap:=h',toks:=s.toks + 1 }) :
    wpAny (model prog w) A (setAdd a x) Q E s:=by
  unfold setAdd
  refine wpAny_holding (wpAny_bind (knd.pyHash hkey ?_))
  obtain ⟨ep,t,ho,hel,hb,hf,ht⟩:=hS
  unfold setAddHashed setAddHashedIn
  have hoT:({ s with toks:=s.toks + 1 }:Shared).heap.get? a=some { cls:=.type "set",dict:=none,data:=.set es ep t }:=ho
  refine wpAny_holding (wpAny_bind (wpAny_setState_of hoT rfl hf ?_))
  dsimp only
  rw [byScan_of hsc hb hel]
  simp only [↓reduceIte]
  unfold setAddByScan
  refine wpAny_bind ?_
  refine wpAny_bind (wpAny_rule ?_)
  refine wpAny_bind (wpAny_setScan_of hkey hoT rfl hf hel ?_)
  cases hr:List.findIdx? (λ e=>knd.is k e.2) es.toList with
  | some j =>
    dsimp only
    obtain ⟨hj,hpj,_⟩:=List.findIdx?_eq_some_iff_getElem.mp hr
    refine wpAny_pure (wpAny_pure ?_)
    exact h s.heap es _ (Heap.SameBut.refl a s.heap) ⟨ep,t,ho,hel,hb,hf,ht⟩ (.inl ⟨⟨es.toList[j],List.getElem_mem hj,hpj⟩,rfl⟩)
  | none =>
    dsimp only
    have hno:∀ e∈es.toList,knd.is k e.2=false:=λ e he=>by
      have:=List.findIdx?_eq_none_iff.mp hr e he
      simpa using this
    have hgw:∀ (b:Bool) {s₁:Shared} {Q':Unit->Shared->Prop},Q' () s₁->wpAny (model prog w) A (match b with | true=>rule "set.scan.the-table-gave-way" | false=>pure ()) Q' E s₁ :=
      λ b s₁ Q' hq=>by cases b <;> first | exact wpAny_pure hq | exact wpAny_rule hq
    have hperm:=layNew_perm t es (knd.hash k) x
    have hfits:=layNew_fits t es (knd.hash k) x
    have htok:=tok_layNew ht es (knd.hash k) x
    generalize hL:layNew t es (knd.hash k) x=L at hperm hfits htok ⊢
    obtain ⟨es1,t1,wasDummy,gave⟩:=L
    dsimp only at hperm hfits htok ⊢
    rw [Array.toList_push] at hperm
    have hel1:ElemsOf knd es1.toList:=(hel.push hkey hsc).perm hperm
    have hb1':es1.size < scanBound:=by rw [<- Array.length_toList,hperm.length_eq,List.length_append,Array.length_toList]; simpa using hroom
    refine wpAny_bind (hgw _ ?_)
    have hend:∀ h' es',Heap.SameBut a s.heap h'->SetR knd h' a led es'->es'.toList.Perm es1.toList->Q true { s with heap:=h',toks:=s.toks + 1 }:=λ h' es' hsb hS' hp=>h h' es' _ hsb hS' (.inr ⟨hno,hp.trans hperm⟩)
    split
    · refine wpAny_bind ?_
      rw [hashByValue_scannable 8 hsc]
      refine wpAny_pure ?_
      refine addTailR (s:={ s with toks:=s.toks + 1 }) (led:=led) ?_ hoT hel1 hb1' ?_ ?_ ?_
      · intro b s₁ Q' hq; cases b <;> first | exact wpAny_pure hq | exact wpAny_rule hq
      · split
        · exact hfits
        · exact SetTable.fits_plain_off hfits
      · split
        · exact htok
        · exact tok_plain htok _
      · intro h' es' hsb hS' hp; dsimp only; exact wpAny_pure (hend h' es' hsb hS' hp)
    · refine wpAny_bind (wpAny_pure ?_)
      simp only [↓reduceIte]
      refine addTailR (s:={ s with toks:=s.toks + 1 }) (led:=led) ?_ hoT hel1 hb1' hfits htok ?_
      · intro b s₁ Q' hq; cases b <;> first | exact wpAny_pure hq | exact wpAny_rule hq
      · intro h' es' hsb hS' hp; dsimp only; exact wpAny_pure (hend h' es' hsb hS' hp)
end
end Wy


namespace Wy
open PySem PySem.Spec PyProof.Rows L2
section
variable {prog:Program} {w:World} {K:Type} [DecidableEq K] {knd:PySem.KeyKind prog w K}
inductive KL (knd:PySem.KeyKind prog w K):List K->List (Int×Value)->Prop
  | nil:KL knd [] []
  | cons {k:K} {e:Int×Value} {ks:List K} {l:List (Int×Value)}:knd.is k e.2=true->KL knd ks l->KL knd (k::ks) (e::l)
theorem KL.length {ks:List K} {l:List (Int×Value)} (h:KL knd ks l):ks.length=l.length:=by
  induction h with
  | nil=>rfl
  | cons _ _ ih=>simp [ih]
theorem KL.append {ks ks':List K} {l l':List (Int×Value)} (h:KL knd ks l) (h':KL knd ks' l'):KL knd (ks++ks') (l++l'):=by
  induction h with
  | nil=>exact h'
  | cons a _ ih=>exact .cons a ih
theorem KL.perm {l l':List (Int×Value)} (p:l.Perm l'):∀ {ks:List K},KL knd ks l->∃ ks',ks.Perm ks'/\KL knd ks' l':=by
  induction p with
  | nil=>intro ks h; exact ⟨ks,.refl _,h⟩
  | cons x _ ih =>
    intro ks h
    cases h with
    | cons a r =>
      obtain ⟨ks',p1,h1⟩:=ih r
      exact ⟨_,p1.cons _,.cons a h1⟩
  | swap x y l =>
    intro ks h
    cases h with
    | cons a r =>
      cases r with
      | cons b r=>exact ⟨_,.swap _ _ _,.cons b (.cons a r)⟩
  | trans _ _ ih1 ih2 =>
    intro ks h
    obtain ⟨k1,p1,h1⟩:=ih1 h
    obtain ⟨k2,p2,h2⟩:=ih2 h1
    exact ⟨k2,p1.trans p2,h2⟩
theorem KL.has {ks:List K} {l:List (Int×Value)} (h:KL knd ks l) {k:K} (hk:k∈ks):∃ e∈l,knd.is k e.2=true:=by
  induction h with
  | nil=>cases hk
  | cons a r ih =>
    rcases List.mem_cons.mp hk with rfl | hk
    · exact ⟨_,List.mem_cons_self,a⟩
    · obtain ⟨e,h1,h2⟩:=ih hk
      exact ⟨e,List.mem_cons_of_mem _ h1,h2⟩
theorem KL.of {ks:List K} {l:List (Int×Value)} (h:KL knd ks l) {k:K} {e:Int×Value} (he:e∈l) (hk:knd.is k e.2=true):k∈ks:=by
  induction h with
  | nil=>cases he
  | cons a r ih =>
    rcases List.mem_cons.mp he with rfl | he
    · rw [knd.inj _ _ _ hk a]; exact List.mem_cons_self
    · exact List.mem_cons_of_mem _ (ih he)
noncomputable def SetK (knd:PySem.KeyKind prog w K) (h:Heap) (a:Addr) (led:Bool) (ks:List K):Prop:=∃ es,SetR knd h a led es/\KL knd ks es.toList/\ks.Nodup
theorem SetR.at {h h':Heap} {a:Addr} {led:Bool} {es:Array (Int×Value)} (hs:SetR knd h a led es) (k:∀ o,h.get? a=some o->h'.get? a=some o):SetR knd h' a led es:=by
  obtain ⟨ep,t,ho,r⟩:=hs
  exact ⟨ep,t,k _ ho,r⟩
noncomputable def ledOf (w:World):Bool:=!w.params.followText "set-order"
variable {A:Around} {E:Value->Shared->Prop} {s:Shared} {R:Result->Shared->Prop} {I:Addr} {fp wr:List Addr} {G:Array GenState->Array GenState->Prop} {n:Nat} {P:Nat->Value->Prop} {St:Nat->Shared->Prop} {led:Bool}
theorem set_loopK (W:WalksS prog w A.in1 I fp wr G n P St) (S:Addr) (hSf:S∉fp) (val:Nat->K) (hval:∀ i v,P i v->knd.is (val i) v=true/\v.scannable=true) (hb:n + 1 < scanBound) :
    ∀ (m i:Nat) (s:Shared) (ks:List K),n - i=m->i<=n->St i s->SetK knd s.heap S led ks->ks.length<=i->(∀ k,k∈ks↔∃ j,j < i/\val j=k) ->
      (∀ s' ks',Moved (S::wr) G s s'->SetK knd s'.heap S led ks'->ks'.length<=n->(∀ k,k∈ks'↔∃ j,j < n/\val j=k)->R (.ok (.ret .none)) s') ->
      codeAny (model prog w) A (.builtin "set.update.loop" ⟨[.ref S,.ref I],[]⟩) R s:=by
  have hSw:S∉wr:=λ h=>hSf (W.sub _ h)
  have hsub:∀ b∈wr,b∈S::wr:=λ b hb=>List.mem_cons_of_mem _ hb
  intro m
  induction m with
  | zero =>
    intro i s ks hk hi hst hS hlen hmem hR
    have hin:i=n:=by omega
    subst hin
    refine codeAny_builtin F.entry_set_update_loop ?_
    rw [Around.under_plainId F.plain_set_update_loop _]
    show wpAny _ A.in1 (pyNext (.ref I)>>=_) _ _ s
    refine wpAny_bind (W.done s _ _ hst λ s' hm=>?_)
    show wpAny _ A.in1 (ret Value.none) _ _ s'
    obtain ⟨es,h1,h2⟩:=hS
    exact wpAny_pure (hR s' ks (hm.mono hsub) ⟨es,h1.at λ o e=>hm.heap S o hSw e,h2⟩ hlen hmem)
  | succ m ih =>
    intro i s ks hk hi hst hS hlen hmem hR
    have hlt:i < n:=by omega
    refine codeAny_builtin F.entry_set_update_loop ?_
    rw [Around.under_plainId F.plain_set_update_loop _]
    show wpAny _ A.in1 (pyNext (.ref I)>>=_) _ _ s
    refine wpAny_bind (W.item i s _ _ hlt hst λ v s' hP hst' hm=>?_)
    obtain ⟨hv1,hv2⟩:=hval i v hP
    obtain ⟨es,hS1,hK,hnd⟩:=hS
    have hS':=hS1.at (h':=s'.heap) λ o e=>hm.heap S o hSw e
    have hes:es.size=ks.length:=by rw [<- Array.length_toList,hK.length]
    show wpAny _ A.in1 (holding [v] (setAdd S v)>>=_) _ _ s'
    refine wpAny_bind (wpAny_holding (setAddR hv1 hv2 hS' (by omega) λ h' es' b hsb hS2 hcase=>?_))
    have next:∀ ks',SetK knd h' S led ks'->ks'.length<=i + 1->(∀ k,k∈ks'↔∃ j,j < i + 1/\val j=k) ->
        codeAny (model prog w) A (.builtin "set.update.loop" ⟨[.ref S,.ref I],[]⟩) R { s' with heap:=h',toks:=s'.toks + 1 }:=λ ks' hS3 hl3 hm3=>by
      refine ih (i + 1) _ ks' (by omega) hlt (W.frame _ s' _ _ hst' (Nat.le_succ _) λ b hb o e=>?_) hS3 hl3 hm3 λ s'' ks'' hm'' hS''=>?_
      · rw [hsb.2 b (λ h:b=S=>hSf (by rw [<- h]; exact hb))]; exact e
      · refine hR s'' ks'' (Moved.trans W.gtrans ((hm.mono hsub).then_heap (Nat.le_succ _) λ b o hb e=>?_) hm'') hS''
        rw [hsb.2 b (λ h:b=S=>hb (by rw [h]; exact List.mem_cons_self))]; exact e
    refine wpAny_pure ⟨plainId_quiet F.plain_set_update_loop _,?_⟩
    rcases hcase with ⟨⟨e,he,hk1⟩,rfl⟩ | ⟨hno,hp⟩
    · refine next ks ⟨_,hS2,hK,hnd⟩ (by omega) λ k=>(hmem k).trans ⟨λ ⟨j,h1,h2⟩=>⟨j,by omega,h2⟩,λ ⟨j,h1,h2⟩=>?_⟩
      by_cases hj:j=i
      · subst hj
        subst h2
        exact (hmem _).mp (hK.of he hk1)
      · exact ⟨j,by omega,h2⟩
    · have hK2:KL knd (ks++[val i]) (es.toList++[(knd.hash (val i),v)]):=hK.append (.cons hv1 .nil)
      obtain ⟨ks',p1,hK3⟩:=KL.perm hp.symm hK2
      have hni:val i∉ks:=λ hm=>by
        obtain ⟨e,he,h1⟩:=hK.has hm
        rw [hno e he] at h1
        cases h1
      refine next ks' ⟨es',hS2,hK3,p1.nodup_iff.mp (List.nodup_append.mpr ⟨hnd,by simp,λ a ha b hb=>by rw [List.mem_singleton.mp hb]; exact λ z=>hni (z ▸ ha)⟩)⟩ (by rw [<- p1.length_eq]; simp; omega) λ k=>?_
      rw [<- p1.mem_iff,List.mem_append,List.mem_singleton,hmem k]
      constructor
      · rintro (⟨j,h1,h2⟩ | rfl)
        · exact ⟨j,by omega,h2⟩
        · exact ⟨i,by omega,rfl⟩
      · rintro ⟨j,h1,h2⟩
        by_cases hj:j=i
        · subst hj; exact .inr h2.symm
        · exact .inl ⟨j,by omega,h2⟩
theorem set_newK (a:Value) {Q₁:Value->Shared->Prop}
    (h:Q₁ (.ref s.heap.objs.size) { s with heap:=s.heap.push { cls:=.type "set",dict:=none,data:=.set #[] 0 (.fresh 0 0 (ledOf w)) } }) :
    codeAny (model prog w) A (.call (.builtin "set.__new__") ⟨[.type "set",a],[]⟩) (wants Q₁ E) s:=by
  refine codeAny_of_tree ?_
  show wpAny _ A.in1 (do checkBuiltinCall "set.__new__" ⟨[.type "set",a],[]⟩; again (.builtin "set.__new__" ⟨[.type "set",a],[]⟩)) _ _ s
  refine wpAny_bind (wpAny_of_eq (PySem.F.newCall_set_1 a) (wpAny_pure ⟨plainId_quiet PySem.F.plain_set_new _,codeAny_builtin PySem.F.entry_set_new ?_⟩))
  rw [Around.under_plainId PySem.F.plain_set_new _]
  unfold Builtin.«set.__new__» Builtin.Frozenset.newClass
  have hsub:=sub_set_self
  obtain ⟨hp,g,d,tk,os⟩:=s
  dsimp only
  wp_walk
  refine wpAny_askSetting (wpAny_pure ?_)
  dsimp only
  simp only [newObj]
  refine wpAny_bind (wpAny_alloc (wpAny_pure ?_))
  exact wpAny_pure h
theorem setK_fresh {h:Heap} {a:Addr} (ho:h.get? a=some { cls:=.type "set",dict:=none,data:=.set #[] 0 (.fresh 0 0 led) }):SetK knd h a led [] :=
  ⟨#[],⟨0,_,ho,λ e he=>by simp at he,by decide,by rfl,tok_fresh led⟩,.nil,.nil⟩
set_option maxHeartbeats 3200000 in
theorem call_set_L {l:Addr} {items:Array Value} {val:Nat->K} {Q:Value->Shared->Prop}
    (hh:A.handled=none) (hl:s.heap.IsList l items) (hval:∀ i v,items[i]?=some v->knd.is (val i) v=true/\v.scannable=true) (hb:items.size + 1 < scanBound)
    (h:∀ (h':Heap) (tk:Nat) (ks:List K),SetK knd h' s.heap.objs.size (ledOf w) ks->ks.length<=items.size->(∀ k,k∈ks↔∃ j,j < items.size/\val j=k) ->
      (∀ b o,b < s.heap.objs.size->s.heap.get? b=some o->h'.get? b=some o)->Q (.ref s.heap.objs.size) { s with heap:=h',toks:=tk }) :
    wpAny (model prog w) A (call (.type "set") [.ref l]) Q E s:=by
  obtain ⟨c,tl,hmro⟩:=PySem.F.called_set.mro
  have hmade:=PySem.F.called_set.made
  have hsub:=PySem.F.called_set.sub
  refine wpAny_call (codeAny_of_tree ?_)
  show wpAny _ _ (callAny (.type "set") _) _ _ _
  refine wpAny_pure ⟨Code.quiet_builtin _ (by decide +kernel),codeAny_builtin PySem.F.entry_type_call ?_⟩
  rw [Around.under_plain (weight_type_call_type "set" [.ref l] []) rfl]
  have h1:=PySem.F.called_set.notType
  have h2:=PySem.F.called_set.canCreate
  have hct:=PySem.F.typeCall_set_1 (.ref l)
  repeat (any_goals (first | assumption | wp_step))
  refine codeAny_mono (set_newK (.ref l) (E:=E) (Q₁:=λ obj s₁=>obj=.ref s.heap.objs.size/\s₁={ s with heap:=s.heap.push { cls:=.type "set",dict:=none,data:=.set #[] 0 (.fresh 0 0 (ledOf w)) } }) ⟨rfl,rfl⟩) λ r s₁ hr=>?_
  cases r with
  | error e=>exact hr
  | ok fl =>
    cases fl with
    | ret obj =>
      obtain ⟨rfl,rfl⟩:=hr
      generalize ledOf w=led at h ⊢
      have hS:(s.heap.push { cls:=.type "set",dict:=none,data:=.set #[] 0 (.fresh 0 0 led) }).get? s.heap.objs.size=some { cls:=.type "set",dict:=none,data:=.set #[] 0 (.fresh 0 0 led) }:=Heap.get?_push_size _ rfl
      have hT:Shared.TypeIs { s with heap:=s.heap.push { cls:=.type "set",dict:=none,data:=.set #[] 0 (.fresh 0 0 led) } } (.ref s.heap.objs.size) "set":=⟨_,hS,rfl⟩
      have hli:=PySem.F.called_set.init.lookup
      have hbi:=PySem.F.called_set.init.bind (.ref s.heap.objs.size)
      repeat (any_goals (first | assumption | wp_step))
      refine codeAny_mono (codeAny_call_builtin (R:=wants (λ r s₂=>r=.none/\∃ h' tk ks,s₂={ s with heap:=h',toks:=tk }/\SetK knd h' s.heap.objs.size led ks/\ks.length<=items.size/\(∀ k,k∈ks↔∃ j,j < items.size/\val j=k) /\
          (∀ b o,b < s.heap.objs.size->s.heap.get? b=some o->h'.get? b=some o)) E) PySem.F.called_set.init.plain PySem.F.entry_set_init (check_set_init_1 hT ?_)) λ r₂ s₂ hr₂=>?_
      · obtain ⟨ol,hol,hcl,nl,hdl⟩:=hl
        obtain ⟨ocls,odict,odata,oslots⟩:=ol
        simp only at hcl hdl
        subst hcl; subst hdl
        have hol':(s.heap.push { cls:=.type "set",dict:=none,data:=.set #[] 0 (.fresh 0 0 led) }).get? l=some { cls:=.type "list",dict:=odict,data:=.seq items nl,slots:=oslots }:=Heap.get?_push_of_some _ hol
        have hsls:=PySem.F.sub_list_set
        have hslf:=PySem.F.sub_list_frozenset
        have hne:(Value.type "list" == Value.type "dict")=false:=by decide
        have hl1:(s.heap.push { cls:=.type "set",dict:=none,data:=.set #[] 0 (.fresh 0 0 led) }).IsList l items:=⟨_,hol',rfl,nl,rfl⟩
        unfold Builtin.«set.__init__» noKeywords Builtin.Frozenset.updateFrom
        generalize hPI:pyIter=PI
        wp_walk
        subst hPI
        refine wpAny_pyIter_list hl1 ?_
        refine wpAny_bind (wpAny_runValue ?_)
        have hlS:l < s.heap.objs.size:=Heap.lt_size hol
        have hh3:A.in1.in1.in1.handled=none:=by simp [hh]
        have hneI:l≠(s.heap.push { cls:=.type "set",dict:=none,data:=.set #[] 0 (.fresh 0 0 led) }).objs.size:=by
          rw [Heap.size_push]; exact Nat.ne_of_lt (Nat.lt_succ_of_lt hlS)
        have hSf:s.heap.objs.size∉[(s.heap.push { cls:=.type "set",dict:=none,data:=.set #[] 0 (.fresh 0 0 led) }).objs.size,l]:=by
          rw [Heap.size_push]; simp only [List.mem_cons,List.mem_singleton,List.not_mem_nil,or_false,not_or]
          exact ⟨Nat.ne_of_lt (Nat.lt_succ_self _),Nat.ne_of_gt hlS⟩
        have hget:((s.heap.push { cls:=.type "set",dict:=none,data:=.set #[] 0 (.fresh 0 0 led) }).push { cls:=.type "list_iterator",data:=.fields #[.ref l,.int 0 0] }).get? s.heap.objs.size
             =some { cls:=.type "set",dict:=none,data:=.set #[] 0 (.fresh 0 0 led) }:=Heap.get?_push_of_some _ hS
        refine set_loopK (knd:=knd) (led:=led) ((Walks.list hh3 _ l hneI items).toS) s.heap.objs.size hSf val hval hb (items.size - 0) 0 _ [] (by omega) (Nat.zero_le _)
          ⟨⟨_,Heap.get?_push_size _ rfl,rfl,rfl⟩,(hl1.push _)⟩ (setK_fresh hget) (Nat.zero_le _) (λ k=>by simp) ?_
        intro s' ks hm hS' hlen hmem
        obtain ⟨h',g',d',tk',os'⟩:=s'
        have eg:g'=s.gens:=hm.gens
        have ed:d'=s.drawn:=hm.drawn
        have eo:os'=s.os:=hm.os
        subst eg; subst ed; subst eo
        show wpAny _ _ _ _ _ _
        refine wpAny_pure ?_
        show wpAny _ _ (ret Value.none) _ _ _
        refine wpAny_pure ⟨rfl,h',tk',ks,rfl,hS',hlen,hmem,λ b o hb e=>?_⟩
        have hb1:b≠s.heap.objs.size:=Nat.ne_of_lt hb
        have hb2:b≠(s.heap.push { cls:=.type "set",dict:=none,data:=.set #[] 0 (.fresh 0 0 led) }).objs.size:=by
          rw [Heap.size_push]; exact Nat.ne_of_lt (Nat.lt_succ_of_lt hb)
        exact hm.heap b o (by simp only [List.mem_cons,List.mem_singleton,List.not_mem_nil,or_false,not_or]; exact ⟨hb1,hb2⟩) (Heap.get?_push_of_some _ (Heap.get?_push_of_some _ e))
      · cases r₂ with
        | error e=>exact hr₂
        | ok fl₂ =>
          cases fl₂ with
          | ret r =>
            obtain ⟨rfl,h',tk,ks,rfl,hS',hlen,hmem,hk'⟩:=hr₂
            repeat (any_goals (first | assumption | wp_step))
            exact h _ _ _ hS' hlen hmem hk'
          | _=>exact hr₂.elim
    | _=>exact hr.elim
set_option maxHeartbeats 3200000 in
theorem call_set_T {l:Addr} {items:Array Value} {val:Nat->K} {Q:Value->Shared->Prop}
    (hh:A.handled=none) (hl:s.heap.IsTuple l items) (hval:∀ i v,items[i]?=some v->knd.is (val i) v=true/\v.scannable=true) (hb:items.size + 1 < scanBound)
    (h:∀ (h':Heap) (tk:Nat) (ks:List K),SetK knd h' s.heap.objs.size (ledOf w) ks->ks.length<=items.size->(∀ k,k∈ks↔∃ j,j < items.size/\val j=k) ->
      (∀ b o,b < s.heap.objs.size->s.heap.get? b=some o->h'.get? b=some o)->Q (.ref s.heap.objs.size) { s with heap:=h',toks:=tk }) :
    wpAny (model prog w) A (call (.type "set") [.ref l]) Q E s:=by
  obtain ⟨c,tl,hmro⟩:=PySem.F.called_set.mro
  have hmade:=PySem.F.called_set.made
  have hsub:=PySem.F.called_set.sub
  refine wpAny_call (codeAny_of_tree ?_)
  show wpAny _ _ (callAny (.type "set") _) _ _ _
  refine wpAny_pure ⟨Code.quiet_builtin _ (by decide +kernel),codeAny_builtin PySem.F.entry_type_call ?_⟩
  rw [Around.under_plain (weight_type_call_type "set" [.ref l] []) rfl]
  have h1:=PySem.F.called_set.notType
  have h2:=PySem.F.called_set.canCreate
  have hct:=PySem.F.typeCall_set_1 (.ref l)
  repeat (any_goals (first | assumption | wp_step))
  refine codeAny_mono (set_newK (.ref l) (E:=E) (Q₁:=λ obj s₁=>obj=.ref s.heap.objs.size/\s₁={ s with heap:=s.heap.push { cls:=.type "set",dict:=none,data:=.set #[] 0 (.fresh 0 0 (ledOf w)) } }) ⟨rfl,rfl⟩) λ r s₁ hr=>?_
  cases r with
  | error e=>exact hr
  | ok fl =>
    cases fl with
    | ret obj =>
      obtain ⟨rfl,rfl⟩:=hr
      generalize ledOf w=led at h ⊢
      have hS:(s.heap.push { cls:=.type "set",dict:=none,data:=.set #[] 0 (.fresh 0 0 led) }).get? s.heap.objs.size=some { cls:=.type "set",dict:=none,data:=.set #[] 0 (.fresh 0 0 led) }:=Heap.get?_push_size _ rfl
      have hT:Shared.TypeIs { s with heap:=s.heap.push { cls:=.type "set",dict:=none,data:=.set #[] 0 (.fresh 0 0 led) } } (.ref s.heap.objs.size) "set":=⟨_,hS,rfl⟩
      have hli:=PySem.F.called_set.init.lookup
      have hbi:=PySem.F.called_set.init.bind (.ref s.heap.objs.size)
      repeat (any_goals (first | assumption | wp_step))
      refine codeAny_mono (codeAny_call_builtin (R:=wants (λ r s₂=>r=.none/\∃ h' tk ks,s₂={ s with heap:=h',toks:=tk }/\SetK knd h' s.heap.objs.size led ks/\ks.length<=items.size/\(∀ k,k∈ks↔∃ j,j < items.size/\val j=k) /\
          (∀ b o,b < s.heap.objs.size->s.heap.get? b=some o->h'.get? b=some o)) E) PySem.F.called_set.init.plain PySem.F.entry_set_init (check_set_init_1 hT ?_)) λ r₂ s₂ hr₂=>?_
      · obtain ⟨ol,hol,hcl,nl,hdl⟩:=hl
        obtain ⟨ocls,odict,odata,oslots⟩:=ol
        simp only at hcl hdl
        subst hcl; subst hdl
        have hol':(s.heap.push { cls:=.type "set",dict:=none,data:=.set #[] 0 (.fresh 0 0 led) }).get? l=some { cls:=.type "tuple",dict:=odict,data:=.seq items nl,slots:=oslots }:=Heap.get?_push_of_some _ hol
        have hsls:=PySem.F.sub_tuple_set
        have hslf:=PySem.F.sub_tuple_frozenset
        have hne:(Value.type "tuple" == Value.type "dict")=false:=by decide
        have hl1:(s.heap.push { cls:=.type "set",dict:=none,data:=.set #[] 0 (.fresh 0 0 led) }).IsTuple l items:=⟨_,hol',rfl,nl,rfl⟩
        unfold Builtin.«set.__init__» noKeywords Builtin.Frozenset.updateFrom
        generalize hPI:pyIter=PI
        wp_walk
        subst hPI
        refine wpAny_pyIter_tuple hl1 ?_
        refine wpAny_bind (wpAny_runValue ?_)
        have hlS:l < s.heap.objs.size:=Heap.lt_size hol
        have hh3:A.in1.in1.in1.handled=none:=by simp [hh]
        have hneI:l≠(s.heap.push { cls:=.type "set",dict:=none,data:=.set #[] 0 (.fresh 0 0 led) }).objs.size:=by
          rw [Heap.size_push]; exact Nat.ne_of_lt (Nat.lt_succ_of_lt hlS)
        have hSf:s.heap.objs.size∉[(s.heap.push { cls:=.type "set",dict:=none,data:=.set #[] 0 (.fresh 0 0 led) }).objs.size,l]:=by
          rw [Heap.size_push]; simp only [List.mem_cons,List.mem_singleton,List.not_mem_nil,or_false,not_or]
          exact ⟨Nat.ne_of_lt (Nat.lt_succ_self _),Nat.ne_of_gt hlS⟩
        have hget:((s.heap.push { cls:=.type "set",dict:=none,data:=.set #[] 0 (.fresh 0 0 led) }).push { cls:=.type "tuple_iterator",data:=.fields #[.ref l,.int 0 0] }).get? s.heap.objs.size
             =some { cls:=.type "set",dict:=none,data:=.set #[] 0 (.fresh 0 0 led) }:=Heap.get?_push_of_some _ hS
        refine set_loopK (knd:=knd) (led:=led) ((Walks.tuple hh3 _ l hneI items).toS) s.heap.objs.size hSf val hval hb (items.size - 0) 0 _ [] (by omega) (Nat.zero_le _)
          ⟨⟨_,Heap.get?_push_size _ rfl,rfl,rfl⟩,(hl1.push _)⟩ (setK_fresh hget) (Nat.zero_le _) (λ k=>by simp) ?_
        intro s' ks hm hS' hlen hmem
        obtain ⟨h',g',d',tk',os'⟩:=s'
        have eg:g'=s.gens:=hm.gens
        have ed:d'=s.drawn:=hm.drawn
        have eo:os'=s.os:=hm.os
        subst eg; subst ed; subst eo
        show wpAny _ _ _ _ _ _
        refine wpAny_pure ?_
        show wpAny _ _ (ret Value.none) _ _ _
        refine wpAny_pure ⟨rfl,h',tk',ks,rfl,hS',hlen,hmem,λ b o hb e=>?_⟩
        have hb1:b≠s.heap.objs.size:=Nat.ne_of_lt hb
        have hb2:b≠(s.heap.push { cls:=.type "set",dict:=none,data:=.set #[] 0 (.fresh 0 0 led) }).objs.size:=by
          rw [Heap.size_push]; exact Nat.ne_of_lt (Nat.lt_succ_of_lt hb)
        exact hm.heap b o (by simp only [List.mem_cons,List.mem_singleton,List.not_mem_nil,or_false,not_or]; exact ⟨hb1,hb2⟩) (Heap.get?_push_of_some _ (Heap.get?_push_of_some _ e))
      · cases r₂ with
        | error e=>exact hr₂
        | ok fl₂ =>
          cases fl₂ with
          | ret r =>
            obtain ⟨rfl,h',tk,ks,rfl,hS',hlen,hmem,hk'⟩:=hr₂
            repeat (any_goals (first | assumption | wp_step))
            exact h _ _ _ hS' hlen hmem hk'
          | _=>exact hr₂.elim
    | _=>exact hr.elim
end
end Wy


namespace Wy
open PySem PySem.Spec PyProof.Rows L2
theorem slot_si_next:Slot "set_iterator" "__next__" "set_iterator.__next__" :=
  .of (owner:="set_iterator") (n:="__next__") (by rw [typeLookup_type,builtinLookup_eq_fast]; kernel_rfl) (by decide +kernel) (by decide +kernel) (by decide +kernel)
    (by first | exact .inl (by decide +kernel) | exact .inr (by decide +kernel)) (by rw [isSubtype_type]; kernel_rfl)
theorem entry_si_next:entryFor table "set_iterator.__next__"=some Builtin.«set_iterator.__next__»:=entryFor_of_tree (by kernel_rfl)
theorem args_si_next (a:Value):argsOk "set_iterator.__next__" ⟨[a],[]⟩:=by unfold argsOk; kernel_rfl
theorem entry_set_iter:entryFor table "set.__iter__"=some Builtin.«frozenset.__iter__» :=
  entryFor_alias (id':="frozenset.__iter__") (by kernel_rfl) rfl (by decide +kernel) (by kernel_rfl)
theorem slot_si_iter:Slot "set_iterator" "__iter__" "set_iterator.__iter__" :=
  .of (owner:="set_iterator") (n:="__iter__") (by rw [typeLookup_type,builtinLookup_eq_fast]; kernel_rfl) (by decide +kernel) (by decide +kernel) (by decide +kernel)
    (by first | exact .inl (by decide +kernel) | exact .inr (by decide +kernel)) (by rw [isSubtype_type]; kernel_rfl)
theorem entry_si_iter:entryFor table "set_iterator.__iter__"=some Builtin.«dict_keyiterator.__iter__» :=
  entryFor_alias (id':="dict_keyiterator.__iter__") (by kernel_rfl) rfl (by decide +kernel) (by kernel_rfl)
theorem args_si_iter (a:Value):argsOk "set_iterator.__iter__" ⟨[a],[]⟩:=by unfold argsOk; kernel_rfl
theorem erase_perm {α:Type}:∀ {l:List α} {i:Nat} (h:i < l.length),(l[i]::l.eraseIdx i).Perm l
  | [],i,h=>by cases h
  | x::l,0,h=>.refl _
  | x::l,i + 1,h=>by
    have ih:=erase_perm (l:=l) (i:=i) (by simpa using h)
    exact (List.Perm.swap _ _ _).trans (ih.cons x)
theorem pick_go {α:Type} (next:Nat->Nat):∀ (fuel k:Nat) (left:List α) (out:Array α),fuel=left.length->(pickOrder.go next fuel k left out).toList.Perm (out.toList++left)
  | 0,k,left,out,h=>by
    have:left=[]:=List.eq_nil_of_length_eq_zero h.symm
    subst this
    unfold pickOrder.go
    rw [List.append_nil]
  | fuel + 1,k,left,out,h=>by
    unfold pickOrder.go
    have hl:0 < left.length:=by omega
    have hi:next k % left.length < left.length:=Nat.mod_lt _ hl
    rw [List.getElem?_eq_getElem hi]
    dsimp only
    refine (pick_go next fuel (k + 1) _ _ (by rw [List.length_eraseIdx_of_lt hi]; omega)).trans ?_
    rw [Array.toList_push,List.append_assoc]
    exact (erase_perm hi).append_left _
theorem pick_perm {α:Type} (next:Nat->Nat) (xs:Array α):(pickOrder next xs).toList.Perm xs.toList:=by
  have:=pick_go next xs.size 0 xs.toList #[] (by simp)
  simpa [pickOrder] using this
section
variable {prog:Program} {w:World} {A:Around} {E:Value->Shared->Prop} {s:Shared}
theorem wpAny_chooseR {src:Source} {n:Nat} {Q:Nat->Shared->Prop} (hn:n≠0) (h:∀ i d,i < n->Q i { s with drawn:=d }):wpAny (model prog w) A (choose src n) Q E s:=λ Γ p hΓ=>by
  unfold choose
  rw [Sem.wp_choose]
  exact ⟨hn,h _ _ (Nat.mod_lt _ (Nat.pos_of_ne_zero hn))⟩
theorem drawOrderR {α:Type}:∀ (n:Nat) (xs:List α) (s:Shared) (Q:List α->Shared->Prop),n=xs.length->(∀ ys d,ys.Perm xs->Q ys { s with drawn:=d })->wpAny (model prog w) A (drawOrder n xs) Q E s
  | 0,xs,s,Q,hn,h=>by
    have:xs=[]:=List.eq_nil_of_length_eq_zero hn.symm
    subst this
    exact wpAny_pure (h [] s.drawn (.refl _))
  | n + 1,[],s,Q,hn,h=>by cases hn
  | n + 1,x::xs,s,Q,hn,h=>by
    unfold drawOrder
    refine wpAny_bind (wpAny_chooseR (by simp) λ i d hi=>?_)
    rw [List.getElem?_eq_getElem hi]
    dsimp only
    have hlen:n=((x::xs).eraseIdx i).length:=by
      rw [List.length_eraseIdx_of_lt hi]; simp at hn ⊢; exact hn
    refine wpAny_bind (drawOrderR n _ _ _ hlen λ ys d' hp=>wpAny_pure (h _ d' ?_))
    exact (hp.cons _).trans (erase_perm hi)
noncomputable def drw (es:Array (Int×Value)) (t:SetTable):Bool:=!t.plain&&es.size > 1
noncomputable abbrev byText (w:World):Bool:=w.params.followText "set-order"
noncomputable abbrev IsSetIter (h:Heap) (I a:Addr) (first:Value) (i n ep:Nat):Prop :=
  h.get? I=some { cls:=.type "set_iterator",dict:=none,data:=.fields #[first,rawInt i,.ref a,rawInt n,rawInt ep],slots:=#[] }
noncomputable abbrev IsSetObj (h:Heap) (a:Addr) (es:Array (Int×Value)) (ep:Nat) (t:SetTable):Prop:=h.get? a=some { cls:=.type "set",dict:=none,data:=.set es ep t }
theorem setNext_plain {a:Addr} {es:Array (Int×Value)} {ep slot given:Nat} {t:SetTable} {Q:Option (Value×Nat)->Shared->Prop} (ho:IsSetObj s.heap a es ep t) (hf:t.fits es.size=true) (hb:byText w=false) (hd:drw es t=false) (hl:t.led=true)
    (h:Q (match es[SetTable.below t.place slot]?,t.place[SetTable.below t.place slot]? with | some (_,x),some j=>some (x,j + 1) | _,_=>none) s):wpAny (model prog w) A (setNext a slot given ep) Q E s:=by
  unfold setNext setsByText
  refine wpAny_bind (wpAny_setState_of ho rfl hf ?_)
  dsimp only
  refine wpAny_bind (wpAny_bind (wpAny_askSetting (wpAny_pure ?_)))
  show wpAny (model prog w) A (if byText w=true then _ else _) Q E s
  rw [if_neg (by rw [hb]; exact Bool.false_ne_true)]
  show wpAny (model prog w) A (if drw es t=true then _ else _) Q E s
  rw [if_neg (by rw [hd]; exact Bool.false_ne_true)]
  refine wpAny_bind ?_
  show wpAny (model prog w) A (if (!t.led&&!es.isEmpty)=true then _ else _) _ E s
  rw [if_neg (by rw [hl]; exact Bool.false_ne_true)]
  exact wpAny_pure (wpAny_pure h)
theorem setNext_text {a:Addr} {es:Array (Int×Value)} {ep slot given:Nat} {t:SetTable} {Q:Option (Value×Nat)->Shared->Prop} (ho:IsSetObj s.heap a es ep t) (hf:t.fits es.size=true) (hb:byText w=true)
    (h:Q (((pickOrder (w.params.setOrder a ep) es)[given]?).map λ e=>(e.2,slot)) s):wpAny (model prog w) A (setNext a slot given ep) Q E s:=by
  unfold setNext setsByText
  refine wpAny_bind (wpAny_setState_of ho rfl hf ?_)
  dsimp only
  refine wpAny_bind (wpAny_bind (wpAny_askSetting (wpAny_pure ?_)))
  show wpAny (model prog w) A (if byText w=true then _ else _) Q E s
  rw [if_pos hb]
  rw [if_neg (by simp)]
  unfold setWalk setsByText
  refine wpAny_bind (wpAny_bind (wpAny_setState_of ho rfl hf ?_))
  dsimp only
  refine wpAny_bind (wpAny_bind (wpAny_askSetting (wpAny_pure ?_)))
  show wpAny (model prog w) A (if byText w=true then _ else _) _ E s
  rw [if_pos hb]
  exact wpAny_bind (wpAny_askSetting (wpAny_pure (wpAny_pure h)))
end
end Wy


namespace Wy
open PySem PySem.Spec PyProof.Rows L2
section
variable {prog:Program} {w:World} {A:Around} {E:Value->Shared->Prop} {s:Shared}
inductive SetWay (w:World) (a:Addr) (es:Array (Int×Value)) (ep:Nat) (t:SetTable):Heap->(Nat->Value)->List (Int×Value)->List Addr->Prop
  | plain {h:Heap}:byText w=false->drw es t=false->t.led=true->Ris t.place->t.place.size=es.size->SetWay w a es ep t h (λ i=>rawInt (if i=0 then 0 else t.place.getD (i - 1) 0 + 1:Nat)) es.toList []
  | text {h:Heap}:byText w=true->SetWay w a es ep t h (λ _=>rawInt 0) (pickOrder (w.params.setOrder a ep) es).toList []
  | drawn {h:Heap} {T:Addr} {ys:List Nat}:ys.Perm (List.range es.size)->h.get? T=some { cls:=.type "tuple",data:=.seq (ys.map λ (i:Nat)=>rawInt i).toArray }->SetWay w a es ep t h (λ _=>.ref T) (ys.filterMap λ i=>es[i]?) [T]
theorem SetWay.at {a:Addr} {es:Array (Int×Value)} {ep:Nat} {t:SetTable} {h h':Heap} {f:Nat->Value} {ord:List (Int×Value)} {ts:List Addr} (W:SetWay w a es ep t h f ord ts) (k:∀ b∈ts,∀ o,h.get? b=some o->h'.get? b=some o):SetWay w a es ep t h' f ord ts:=by
  cases W with
  | plain h1 h2 h3 h4 h5=>exact .plain h1 h2 h3 h4 h5
  | text h1=>exact .text h1
  | drawn h1 h2=>exact .drawn h1 (k _ (by simp) _ h2)
theorem SetWay.perm {a:Addr} {es:Array (Int×Value)} {ep:Nat} {t:SetTable} {h:Heap} {f:Nat->Value} {ord:List (Int×Value)} {ts:List Addr} (W:SetWay w a es ep t h f ord ts):ord.Perm es.toList:=by
  cases W with
  | plain=>exact .refl _
  | text=>exact pick_perm _ _
  | drawn h1 _ =>
    refine (h1.filterMap _).trans ?_
    rw [filterMap_getElem?_range]
section
variable {I a:Addr} {es:Array (Int×Value)} {ep i:Nat} {t:SetTable} {f:Nat->Value} {ord:List (Int×Value)} {ts:List Addr}
theorem si_item {Q:Option Value->Shared->Prop} {e:Int×Value} (W:SetWay w a es ep t s.heap f ord ts) (hI:IsSetIter s.heap I a (f i) i es.size ep) (ho:IsSetObj s.heap a es ep t) (hf:t.fits es.size=true) (he:ord[i]?=some e)
    (hQ:∀ h',IsSetIter h' I a (f (i + 1)) (i + 1) es.size ep->Heap.SameBut I s.heap h'->Q (some e.2) { s with heap:=h' }):wpAny (model prog w) A (pyNext (.ref I)) Q E s:=by
  have hT:s.TypeIs (.ref I) "set_iterator":=⟨_,hI,rfl⟩
  unfold pyNext
  refine wpAny_bind (wpAny_attempt (wpAny_callSpecial?_slot (name:=Str.ofString "__next__") hT slot_si_next (wpAny_call_entry slot_si_next hT entry_si_next ?_ (args_si_next _))))
  show wpAny _ _ (fieldsOf (.ref I)>>=_) _ _ s
  refine wpAny_bind (wpAny_fieldsOf hI rfl ?_)
  dsimp only [rawInt]
  refine wpAny_bind (wpAny_setEntries_of ho rfl hf ?_)
  rw [if_neg (by simp)]
  cases W with
  | plain h1 h2 h3 h4 h5 =>
    have hi:i < es.size:=by
      have:=(List.getElem?_eq_some_iff.mp he).1; simpa using this
    have hi':i < t.place.size:=by omega
    have hb:SetTable.below t.place (if i=0 then 0 else t.place.getD (i - 1) 0 + 1)=i:=by
      cases i with
      | zero=>exact below_zero _ h4
      | succ j =>
        have hj:j < t.place.size:=by omega
        have e1:t.place.getD j 0=t.place[j]:=by rw [Array.getD,dif_pos hj]; rfl
        simp only [Nat.add_one_ne_zero,if_false,Nat.add_sub_cancel]
        rw [e1]
        exact below_next _ h4 j hj
    show wpAny _ _ (setNext a (Int.toNat ((if i=0 then 0 else t.place.getD (i - 1) 0 + 1:Nat):Int)) (Int.toNat (i:Int)) (Int.toNat (ep:Int))>>=_) _ _ s
    simp only [Int.toNat_natCast]
    refine wpAny_bind (setNext_plain ho hf h1 h2 h3 ?_)
    rw [hb]
    have e2:es[i]?=some e:=by rw [<- Array.getElem?_toList]; exact he
    rw [e2,Array.getElem?_eq_getElem hi']
    obtain ⟨e0,ev⟩:=e
    dsimp only
    refine wpAny_bind (wpAny_setField_rec hI (by simp) λ h1 g1 sb1=>?_)
    refine wpAny_bind (wpAny_setField_rec (s:={ s with heap:=h1 }) g1 (by simp) λ h2 g2 sb2=>?_)
    refine wpAny_pure ⟨_,rfl,wpAny_pure (hQ _ ?_ (sb1.trans sb2))⟩
    have e3:t.place.getD i 0=t.place[i]:=by rw [Array.getD,dif_pos hi']; rfl
    have g2':h2.get? I=some { cls:=.type "set_iterator",dict:=none,data:=.fields #[rawInt ((t.place[i] + 1:Nat):Int),rawInt ((i:Int) + 1),.ref a,rawInt (es.size:Int),rawInt (ep:Int)],slots:=#[] }:=g2
    show h2.get? I=_
    rw [g2']
    simp [e3]
  | text h1 =>
    show wpAny _ _ (setNext a (Int.toNat (0:Int)) (Int.toNat (i:Int)) (Int.toNat (ep:Int))>>=_) _ _ s
    simp only [Int.toNat_natCast]
    refine wpAny_bind (setNext_text ho hf h1 ?_)
    have e2:(pickOrder (w.params.setOrder a ep) es)[i]?=some e:=by rw [<- Array.getElem?_toList]; exact he
    rw [e2]
    obtain ⟨e0,ev⟩:=e
    simp only [Option.map_some]
    refine wpAny_bind (wpAny_setField_rec hI (by simp) λ h1 g1 sb1=>?_)
    refine wpAny_bind (wpAny_setField_rec (s:={ s with heap:=h1 }) g1 (by simp) λ h2 g2 sb2=>?_)
    refine wpAny_pure ⟨_,rfl,wpAny_pure (hQ _ ?_ (sb1.trans sb2))⟩
    have g2':h2.get? I=some { cls:=.type "set_iterator",dict:=none,data:=.fields #[rawInt 0,rawInt ((i:Int) + 1),.ref a,rawInt (es.size:Int),rawInt (ep:Int)],slots:=#[] }:=g2
    show h2.get? I=_
    rw [g2']
    simp
  | @drawn T ys h1 h2 =>
    have hall:∀ j∈ys,j < es.size:=λ j hj=>List.mem_range.mp (h1.mem_iff.mp hj)
    have key:∀ (l:List Nat),(∀ j∈l,j < es.size)->∀ m:Nat,(l.filterMap λ (i:Nat)=>es[i]?)[m]?=(l[m]?).bind λ (j:Nat)=>es[j]?:=by
      intro l
      induction l with
      | nil=>intro _ m; simp
      | cons x l ih =>
        intro hx m
        have hx0:=hx x List.mem_cons_self
        rw [List.filterMap_cons,Array.getElem?_eq_getElem hx0]
        cases m with
        | zero=>simp [Array.getElem?_eq_getElem hx0]
        | succ m=>simpa using ih (λ j hj=>hx j (List.mem_cons_of_mem _ hj)) m
    rw [key ys hall] at he
    obtain ⟨j,hj,hje⟩:=Option.bind_eq_some_iff.mp he
    show wpAny _ _ (seqItems? (.ref T)>>=_) _ _ s
    refine wpAny_bind (wpAny_seqItems h2 rfl ?_)
    have e3:(ys.map λ (i:Nat)=>rawInt (i:Int)).toArray[Int.toNat (i:Int)]?=some (rawInt (j:Int)):=by simp [hj]
    dsimp only
    rw [e3]
    dsimp only [rawInt]
    unfold setNextDrawn
    refine wpAny_bind (wpAny_bind (wpAny_setState_of ho rfl hf ?_))
    dsimp only
    rw [if_neg (by simp)]
    simp only [Int.toNat_natCast]
    rw [hje]
    refine wpAny_pure ?_
    refine wpAny_bind (wpAny_setField_rec hI (by simp) λ h1 g1 sb1=>?_)
    refine wpAny_pure ⟨_,rfl,wpAny_pure (hQ _ ?_ sb1)⟩
    have g2':h1.get? I=some { cls:=.type "set_iterator",dict:=none,data:=.fields #[.ref T,rawInt ((i:Int) + 1),.ref a,rawInt (es.size:Int),rawInt (ep:Int)],slots:=#[] }:=g1
    show h1.get? I=_
    rw [g2']
    simp
theorem stopped {s1:Shared} {h0:Heap} {Q:Option Value->Shared->Prop} (hh:A.handled=none) (sb:Heap.SameBut I h0 s1.heap) (hQ:∀ h',Heap.ExtBut I h0 h'->Q none { s1 with heap:=h' }) :
    wpAny (model prog w) A.in1 (newExc (.type "StopIteration") []>>=λ e=>raiseNew e) (λ fin s'=>∃ v,fin=Fin.done (.ret v)/\wpAny (model prog w) A (pure (some v)) Q E s') (λ e s'=>wpAny (model prog w) A (isInstance e (.type "StopIteration")>>=λ b=>if b=true then pure none else throw e) Q E s') s1:=by
  refine wpAny_bind ?_
  simp only [newExc,newTuple]
  refine wpAny_bind (wpAny_newObj_type ?_ (by size_fits))
  refine wpAny_bind (m:=firstArgMember _ _) (wpAny_of_eq (a:=Value.none) (by first | rfl | (simp only [firstArgMember]; rfl)) ?_)
  refine wpAny_newObj_type ?_ (by size_fits)
  simp only [raiseNew]
  refine wpAny_bind (wpAny_handled ?_)
  rw [show A.in1.handled=none from hh]
  refine wpAny_bind (wpAny_pure (wpAny_throw ?_))
  refine wpAny_bind (wpAny_isInstance (T:="StopIteration") (b:=true) ⟨_,Heap.get?_push_size _ rfl,rfl⟩ isSubtype_stop ?_)
  exact wpAny_pure (hQ _ ((sb.extBut.push _).push _))
theorem si_end {Q:Option Value->Shared->Prop} (hh:A.handled=none) (W:SetWay w a es ep t s.heap f ord ts) (hI:IsSetIter s.heap I a (f es.size) es.size es.size ep) (ho:IsSetObj s.heap a es ep t) (hf:t.fits es.size=true)
    (hQ:∀ h',Heap.ExtBut I s.heap h'->Q none { s with heap:=h' }):wpAny (model prog w) A (pyNext (.ref I)) Q E s:=by
  have hT:s.TypeIs (.ref I) "set_iterator":=⟨_,hI,rfl⟩
  unfold pyNext
  refine wpAny_bind (wpAny_attempt (wpAny_callSpecial?_slot (name:=Str.ofString "__next__") hT slot_si_next (wpAny_call_entry slot_si_next hT entry_si_next ?_ (args_si_next _))))
  show wpAny _ _ (fieldsOf (.ref I)>>=_) _ _ s
  refine wpAny_bind (wpAny_fieldsOf hI rfl ?_)
  dsimp only [rawInt]
  refine wpAny_bind (wpAny_setEntries_of ho rfl hf ?_)
  rw [if_neg (by simp)]
  cases W with
  | plain h1 h2 h3 h4 h5 =>
    have hb:SetTable.below t.place (if es.size=0 then 0 else t.place.getD (es.size - 1) 0 + 1)=es.size:=by
      cases hz:es.size with
      | zero=>exact below_zero _ h4
      | succ j =>
        have hj:j < t.place.size:=by omega
        have e1:t.place.getD j 0=t.place[j]:=by rw [Array.getD,dif_pos hj]; rfl
        simp only [Nat.add_one_ne_zero,if_false,Nat.add_sub_cancel]
        rw [e1]
        exact below_next _ h4 j hj
    show wpAny _ _ (setNext a (Int.toNat ((if es.size=0 then 0 else t.place.getD (es.size - 1) 0 + 1:Nat):Int)) (Int.toNat (es.size:Int)) (Int.toNat (ep:Int))>>=_) _ _ s
    simp only [Int.toNat_natCast]
    refine wpAny_bind (setNext_plain ho hf h1 h2 h3 ?_)
    rw [hb,Array.getElem?_eq_none (Nat.le_refl _)]
    dsimp only
    refine wpAny_bind (wpAny_setField_rec hI (by simp) λ h1 g1 sb1=>?_)
    exact stopped (s1:={ s with heap:=h1 }) hh sb1 hQ
  | text h1 =>
    show wpAny _ _ (setNext a (Int.toNat (0:Int)) (Int.toNat (es.size:Int)) (Int.toNat (ep:Int))>>=_) _ _ s
    simp only [Int.toNat_natCast]
    refine wpAny_bind (setNext_text ho hf h1 ?_)
    have hsz:(pickOrder (w.params.setOrder a ep) es).size=es.size:=by
      have:=(pick_perm (w.params.setOrder a ep) es).length_eq; simpa using this
    rw [Array.getElem?_eq_none (by rw [hsz]; exact Nat.le_refl _)]
    simp only [Option.map_none]
    refine wpAny_bind (wpAny_setField_rec hI (by simp) λ h1 g1 sb1=>?_)
    exact stopped (s1:={ s with heap:=h1 }) hh sb1 hQ
  | @drawn T ys h1 h2 =>
    have hl:ys.length=es.size:=by have:=h1.length_eq; simpa using this
    show wpAny _ _ (seqItems? (.ref T)>>=_) _ _ s
    refine wpAny_bind (wpAny_seqItems h2 rfl ?_)
    have e3:(ys.map λ (i:Nat)=>rawInt (i:Int)).toArray[Int.toNat (es.size:Int)]?=none:=by simp [hl]
    dsimp only
    rw [e3]
    dsimp only
    refine wpAny_bind (wpAny_setField_rec hI (by simp) λ h1 g1 sb1=>?_)
    refine wpAny_bind (wpAny_setField_rec (s:={ s with heap:=h1 }) g1 (by simp) λ h2 g2 sb2=>?_)
    exact stopped (s1:={ s with heap:=h2 }) hh (sb1.trans sb2) hQ
theorem si_self {s:Shared} {Q:Value->Shared->Prop} {i:Nat} {v:Value} {n:Nat} (hI:IsSetIter s.heap I a v i n ep) (h:Q (.ref I) s):wpAny (model prog w) A (pyIter (.ref I)) Q E s:=by
  have hT:s.TypeIs (.ref I) "set_iterator":=⟨_,hI,rfl⟩
  refine wpAny_pyIter_slot hT slot_si_iter (wpAny_call_entry slot_si_iter hT entry_si_iter ?_ (args_si_iter _))
  show wpAny _ _ (ret (.ref I)) _ _ s
  exact wpAny_pure ⟨_,rfl,"set_iterator",_,hT,slot_si_next.lookup,h⟩
theorem walks_set (hh:A.handled=none) (hIa:I≠a) (hIt:I∉ts) (hf:t.fits es.size=true) (hol:ord.length=es.size) :
    WalksS prog w A I (I::a::ts) [I] (λ x y=>y=x) es.size (λ i v=>∃ e,ord[i]?=some e/\v=e.2) (λ i s=>SetWay w a es ep t s.heap f ord ts/\IsSetIter s.heap I a (f i) i es.size ep/\IsSetObj s.heap a es ep t) where
  sub:=λ b hb=>by rw [List.mem_singleton.mp hb]; exact List.mem_cons_self
  grefl:=λ _=>rfl
  gtrans:=λ _ _ _ h1 h2=>h2.trans h1
  frame:=λ i s h' tk st _ k=>⟨st.1.at λ b hb o e=>k b (List.mem_cons_of_mem _ (List.mem_cons_of_mem _ hb)) o e,k I List.mem_cons_self _ st.2.1,k a (List.mem_cons_of_mem _ List.mem_cons_self) _ st.2.2⟩
  item:=λ i s Q E hi st hQ=>by
    obtain ⟨e,he⟩:∃ e,ord[i]?=some e:=⟨ord[i]'(by omega),List.getElem?_eq_getElem (by omega)⟩
    refine si_item st.1 st.2.1 st.2.2 hf he λ h' g sb=>hQ _ _ ⟨e,he,rfl⟩ ⟨st.1.at λ b hb o q=>(sb.2 b (λ z=>hIt (z ▸ hb))).trans q,g,(sb.2 a (Ne.symm hIa)).trans st.2.2⟩ ⟨λ b o hb q=>(sb.2 b (λ z=>hb (by rw [z]; exact List.mem_singleton.mpr rfl))).trans q,rfl,rfl,rfl,Nat.le_refl _⟩
  done:=λ s Q E st hQ=>si_end hh st.1 st.2.1 st.2.2 hf λ h' eb=>hQ _ ⟨λ b o hb q=>eb b o (λ z=>hb (by rw [z]; exact List.mem_singleton.mpr rfl)) q,rfl,rfl,rfl,Nat.le_refl _⟩
  self:=λ i s Q E st hQ=>si_self st.2.1 hQ
end
end
end Wy


namespace Wy
open PySem PySem.Spec PyProof.Rows L2
section
variable {prog:Program} {w:World} {A:Around} {E:Value->Shared->Prop} {s:Shared} {a:Addr} {es:Array (Int×Value)} {ep:Nat} {t:SetTable}
theorem set_iter {Q:Value->Shared->Prop} (ho:IsSetObj s.heap a es ep t) (hf:t.fits es.size=true) (ht:TOk (ledOf w) t) (hz:es.size<=sizeLine)
    (h:∀ h' I d f ord ts,SetWay w a es ep t h' f ord ts->IsSetIter h' I a (f 0) 0 es.size ep->s.heap.objs.size<=I->I < h'.objs.size->(∀ b∈ts,s.heap.objs.size<=b/\b≠I)->(∀ b o,s.heap.get? b=some o->h'.get? b=some o)->Q (.ref I) { s with heap:=h',drawn:=d }) :
    wpAny (model prog w) A (pyIter (.ref a)) Q E s:=by
  have hT:s.TypeIs (.ref a) "set":=⟨_,ho,rfl⟩
  refine wpAny_pyIter_slot hT PySem.F.slot_set_iter (wpAny_call_entry PySem.F.slot_set_iter hT entry_set_iter ?_ (PySem.F.args_set_iter_1 _))
  unfold Builtin.«frozenset.__iter__» Builtin.Frozenset.slot0 Builtin.Frozenset.addrOf Builtin.Frozenset.sizeOf setDrawn setsByText
  refine wpAny_bind (wpAny_bind (m:=slotArgs "__iter__" 0 ⟨[.ref a],[]⟩) (wpAny_pure (wpAny_pure ?_)))
  refine wpAny_bind (wpAny_bind (wpAny_setEntries_of ho rfl hf (wpAny_pure ?_)))
  refine wpAny_bind (wpAny_bind (wpAny_setState_of ho rfl hf ?_))
  dsimp only
  refine wpAny_bind (wpAny_bind (wpAny_askSetting (wpAny_pure (wpAny_pure ?_))))
  show wpAny _ _ (if (!byText w&&drw es t)=true then _ else _) _ _ s
  have fits:t.place.size=es.size:=by
    have:=hf; unfold SetTable.fits at this; simp at this; exact this.1
  by_cases hd:(!byText w&&drw es t)=true
  · rw [if_pos hd]
    refine wpAny_bind (drawOrderR _ _ _ _ (by simp) λ ys d hp=>?_)
    have hyl:ys.length=es.size:=by have:=hp.length_eq; simpa using this
    refine wpAny_bind (wpAny_newTuple ?_ (by rw [List.length_map,hyl]; exact hz))
    generalize hh1:s.heap.push { cls:=.type "tuple",data:=.seq (ys.map λ (i:Nat)=>rawInt (i:Int)).toArray }=h1
    have k1:∀ b o,s.heap.get? b=some o->h1.get? b=some o:=λ b o e=>by rw [<- hh1]; exact Heap.get?_push_of_some _ e
    have z1:h1.objs.size=s.heap.objs.size + 1:=by rw [<- hh1]; exact Heap.size_push ..
    have gT:h1.get? s.heap.objs.size=some { cls:=.type "tuple",data:=.seq (ys.map λ (i:Nat)=>rawInt (i:Int)).toArray }:=by rw [<- hh1]; exact Heap.get?_push_size _ rfl
    refine wpAny_bind (wpAny_setEpoch_of (s:={ s with heap:=h1,drawn:=d }) (k1 _ _ ho) rfl hf ?_)
    refine wpAny_bind (wpAny_newObj_type ?_)
    have gI:(h1.push { cls:=.type "set_iterator",data:=.fields #[.ref s.heap.objs.size,rawInt 0,.ref a,rawInt (es.size:Int),rawInt (ep:Int)] }).get? h1.objs.size=some { cls:=.type "set_iterator",data:=.fields #[.ref s.heap.objs.size,rawInt 0,.ref a,rawInt (es.size:Int),rawInt (ep:Int)] }:=Heap.get?_push_size _ rfl
    refine wpAny_pure ⟨_,rfl,"set_iterator",_,⟨_,gI,rfl⟩,slot_si_next.lookup,?_⟩
    refine h _ h1.objs.size d _ _ _ (.drawn hp (Heap.get?_push_of_some _ gT)) gI (by omega) (by rw [Heap.size_push]; exact Nat.lt_succ_self _) (λ b hb=>?_) λ b o e=>Heap.get?_push_of_some _ (k1 b o e)
    rw [List.mem_singleton.mp hb]
    exact ⟨Nat.le_refl _,by rw [z1]; exact Nat.ne_of_lt (Nat.lt_succ_self _)⟩
  · rw [if_neg hd]
    refine wpAny_bind (wpAny_pure ?_)
    refine wpAny_bind (wpAny_setEpoch_of ho rfl hf ?_)
    refine wpAny_bind (wpAny_newObj_type ?_)
    have gI:(s.heap.push { cls:=.type "set_iterator",data:=.fields #[rawInt 0,rawInt 0,.ref a,rawInt (es.size:Int),rawInt (ep:Int)] }).get? s.heap.objs.size=some { cls:=.type "set_iterator",data:=.fields #[rawInt 0,rawInt 0,.ref a,rawInt (es.size:Int),rawInt (ep:Int)] }:=Heap.get?_push_size _ rfl
    refine wpAny_pure ⟨_,rfl,"set_iterator",_,⟨_,gI,rfl⟩,slot_si_next.lookup,?_⟩
    have done:∀ f ord,SetWay w a es ep t (s.heap.push { cls:=.type "set_iterator",data:=.fields #[rawInt 0,rawInt 0,.ref a,rawInt (es.size:Int),rawInt (ep:Int)] }) f ord []->f 0=rawInt 0->Q (.ref s.heap.objs.size) { s with heap:=s.heap.push { cls:=.type "set_iterator",data:=.fields #[rawInt 0,rawInt 0,.ref a,rawInt (es.size:Int),rawInt (ep:Int)] } }:=λ f ord W hf0 =>
      h _ s.heap.objs.size s.drawn f ord [] W (by rw [hf0]; exact gI) (Nat.le_refl _) (by rw [Heap.size_push]; exact Nat.lt_succ_self _) (λ b hb=>absurd hb (by simp)) λ b o e=>Heap.get?_push_of_some _ e
    cases hb:byText w with
    | true=>exact done _ _ (.text hb) rfl
    | false =>
      rw [hb] at hd
      exact done _ _ (.plain hb (by simpa using hd) (by rw [ht.led]; unfold ledOf; rw [show w.params.followText "set-order"=false from hb]; rfl) ht.ris fits) rfl
theorem items_ord {ord:List (Int×Value)} {acc:Array Value} {n:Nat} (h:ItemsOf (λ i v=>∃ e,ord[i]?=some e/\v=e.2) acc n) (hn:ord.length=n):acc.toList=ord.map (·.2):=by
  obtain ⟨h1,h2⟩:=h
  refine List.ext_getElem? λ i=>?_
  rw [List.getElem?_map,Array.getElem?_toList]
  by_cases hi:i < n
  · have q:=h2 i acc[i] (Array.getElem?_eq_getElem (by omega))
    obtain ⟨e,he,hv⟩:=q
    rw [Array.getElem?_eq_getElem (by omega),he,hv]
    rfl
  · rw [Array.getElem?_eq_none (by omega),List.getElem?_eq_none (by omega)]
    rfl
theorem collect_set {Q:List Value->Shared->Prop} (hh:A.handled=none) (ho:IsSetObj s.heap a es ep t) (hf:t.fits es.size=true) (ht:TOk (ledOf w) t) (hz:es.size<=sizeLine)
    (h:∀ (s':Shared) (ord:List (Int×Value)),ord.Perm es.toList->s'.gens=s.gens->s'.os=s.os->(∀ b o,s.heap.get? b=some o->s'.heap.get? b=some o)->Q (ord.map (·.2)) s'):wpAny (model prog w) A (collect (.ref a)) Q E s:=by
  have hT:s.TypeIs (.ref a) "set":=⟨_,ho,rfl⟩
  unfold collect
  refine wpAny_bind (wpAny_runValue (codeAny_builtin PySem.F.entry_proto_collect ?_))
  rw [Around.under_plainId PySem.F.plain_proto_collect _]
  show wpAny _ A.in1 (newList []>>=λ l=>again (.builtin "list.__iadd__" ⟨[l,.ref a],[]⟩)) _ _ s
  refine wpAny_bind (wpAny_newObj_type ?_)
  refine wpAny_pure ⟨plainId_quiet PySem.F.plain_list_iadd _,codeAny_builtin PySem.F.entry_list_iadd ?_⟩
  rw [Around.under_plainId PySem.F.plain_list_iadd _]
  generalize hh1:s.heap.push { cls:=.type "list",dict:=none,data:=.seq ([]:List Value).toArray }=h1
  have k1:∀ b o,s.heap.get? b=some o->h1.get? b=some o:=λ b o e=>by rw [<- hh1]; exact Heap.get?_push_of_some _ e
  have z1:h1.objs.size=s.heap.objs.size + 1:=by rw [<- hh1]; exact Heap.size_push ..
  have gS:h1.get? s.heap.objs.size=some { cls:=.type "list",dict:=none,data:=.seq ([]:List Value).toArray }:=by rw [<- hh1]; exact Heap.get?_push_size _ rfl
  have ho1:IsSetObj h1 a es ep t:=k1 _ _ ho
  have hT1:Shared.TypeIs { s with heap:=h1 } (.ref a) "set":=⟨_,ho1,rfl⟩
  have hne:s.heap.objs.size≠a:=Nat.ne_of_gt (Heap.lt_size ho)
  have e1:Builtin.List.listSameRef (.ref s.heap.objs.size) (.ref a)=false:=by simp [Builtin.List.listSameRef,hne]
  show wpAny _ A.in1 (Builtin.List.listExtendWith (.ref s.heap.objs.size) (.ref a) (.ref s.heap.objs.size)) _ _ _
  unfold Builtin.List.listExtendWith
  refine wpAny_bind (wpAny_typeOf hT1 ?_)
  rw [if_neg (by rw [e1]; decide)]
  refine wpAny_bind (set_iter (s:={ s with heap:=h1 }) ho1 hf ht hz λ h2 I d f ord ts W gI leI ltI hts k2=>?_)
  have ho2:IsSetObj h2 a es ep t:=k2 _ _ ho1
  have hT2:Shared.TypeIs { s with heap:=h2,drawn:=d } (.ref a) "set":=⟨_,ho2,rfl⟩
  refine wpAny_bind (wpAny_holding ?_)
  unfold Builtin.List.listLengthHint
  refine wpAny_bind (wpAny_specialOf hT2 PySem.F.slot_set_len.lookup ?_)
  generalize hid:("set.__len__":String)=id0
  (fail_if_success (clear hid id0))
  wp_delta
  rw [show splitId id0=some ("set","__len__") from by subst hid; decide +kernel]
  subst hid
  refine wpAny_bind (wpAny_isInstance (b:=true) hT2 (by rw [isSubtype_type]; kernel_rfl) ?_)
  rw [if_neg (by decide)]
  dsimp only
  rw [if_pos (by decide +kernel)]
  refine wpAny_bind (wpAny_typeOf hT2 ?_)
  refine wpAny_pure ?_
  rw [if_pos (by decide +kernel)]
  refine wpAny_bind (wpAny_rule ?_)
  unfold Builtin.List.listTouch
  have gS2:h2.get? s.heap.objs.size=some { cls:=.type "list",dict:=none,data:=.seq ([]:List Value).toArray }:=k2 _ _ gS
  refine wpAny_bind (wpAny_bind (listUpdate_at gS2 rfl ?_))
  have gS3:=get?_update_seq gS2 (·.push .none)
  refine listUpdate_at gS3 rfl ?_
  have gS4:=get?_update_seq gS3 (·.pop)
  have leI':s.heap.objs.size + 1<=I:=by rw [<- z1]; exact leI
  have hSI:s.heap.objs.size≠I:=Nat.ne_of_lt leI'
  have hts':∀ b∈ts,s.heap.objs.size + 1<=b:=λ b hb=>by rw [<- z1]; exact (hts b hb).1
  have hSf:s.heap.objs.size∉I::a::ts:=λ z=>by
    rcases List.mem_cons.mp z with z | z
    · exact hSI z
    · rcases List.mem_cons.mp z with z | z
      · exact hne z
      · exact absurd (hts' _ z) (Nat.not_succ_le_self _)
  have hIa:I≠a:=λ z=>absurd (Nat.lt_of_lt_of_le (Heap.lt_size ho) (Nat.le_of_succ_le leI')) (by rw [z]; exact Nat.lt_irrefl _)
  have hIt:I∉ts:=λ z=>(hts I z).2 rfl
  have hol:ord.length=es.size:=by have:=W.perm.length_eq; simpa using this
  generalize hh4:(h2.update s.heap.objs.size (Obj.mapSeq λ x=>x.push Value.none)).update s.heap.objs.size (Obj.mapSeq λ x=>x.pop)=h4 at gS4
  have k4:∀ b o,b≠s.heap.objs.size->h2.get? b=some o->h4.get? b=some o:=λ b o n e=>by
    rw [<- hh4]
    exact ((Heap.SameBut.update ..).2 b n).trans (((Heap.SameBut.update ..).2 b n).trans e)
  refine wpAny_pure ⟨plainId_quiet PySem.F.plain_extend_loop _,codeAny_extend_loopS (walks_set (A:=A.in1) (I:=I) (f:=f) (ord:=ord) (ts:=ts) (ep:=ep) (t:=t) (es:=es) (a:=a) (show A.in1.handled=none from hh) hIa hIt hf hol) hz _ hSf _ es.size 0 _ #[] 2 (by omega) (Nat.zero_le _)
    ⟨W.at λ b hb o e=>?_,?_,?_⟩ ?_ (ItemsOf.nil _) λ s' acc c' hm hS' hacc=>?_⟩
  · show Heap.get? _ b=some o
    have:=k4 b o (λ z=>absurd (hts' b hb) (by rw [z]; exact Nat.not_succ_le_self _)) e
    exact this
  · have:=k4 I _ (Ne.symm hSI) gI
    exact this
  · have:=k4 a _ (Ne.symm hne) ho2
    exact this
  · have g5:h4.get? s.heap.objs.size=some { cls:=.type "list",dict:=none,data:=.seq #[] 2,slots:=#[] }:=gS4
    exact g5
  · show wpAny _ A (load s.heap.objs.size>>=_) _ _ s'
    refine wpAny_bind (wpAny_load hS' ?_)
    refine wpAny_pure ?_
    rw [items_ord hacc hol]
    refine h s' ord W.perm hm.gens hm.os λ b o e=>?_
    have nb:b≠s.heap.objs.size:=Nat.ne_of_lt (Heap.lt_size e)
    have nI:b≠I:=λ z=>absurd (Nat.lt_of_lt_of_le (Heap.lt_size e) (Nat.le_of_succ_le leI')) (by rw [z]; exact Nat.lt_irrefl _)
    have:=k4 b o nb (k2 b o (k1 b o e))
    exact hm.heap b o (by simp [nb,nI]) this
end
end Wy


namespace Wy
open PySem PySem.Spec PyProof.Rows L2
theorem keys_ints {prog:Program} {w:World} {ks:List Int} {l:List (Int×Value)} (h:KL (intKind prog w) ks l):IntsAre (l.map (·.2)) ks:=by
  induction h with
  | nil=>exact .nil
  | cons a _ ih =>
    obtain ⟨t,e⟩:=Value.isInt_shape a
    rw [List.map_cons,e]
    exact .cons _ _ ih
theorem keys_strs {prog:Program} {w:World} {ks:List Str} {l:List (Int×Value)} (h:KL (PySem.strKind prog w) ks l):StrsAre (l.map (·.2)) ks:=by
  induction h with
  | nil=>exact .nil
  | cons a _ ih =>
    obtain ⟨t,e⟩:=Value.isStrOf_shape a
    rw [List.map_cons,e]
    exact .cons _ _ ih
section
variable {prog:Program} {w:World} {A:Around} {E:Value->Shared->Prop} {s:Shared} {a:Addr}
theorem sorted_set_int {ks:List Int} {Q:Value->Shared->Prop} (hh:A.handled=none) (hS:SetK (intKind prog w) s.heap a (ledOf w) ks) (h64:ks.length < 64)
    (h:∀ (s1:Shared) (h':Heap) (out:Array Value) (n:Nat) (ns':List Int),s1.gens=s.gens->s1.os=s.os->(∀ b o,s.heap.get? b=some o->s1.heap.get? b=some o)->(∀ b o,s1.heap.get? b=some o->h'.get? b=some o)->h'.get? s1.heap.objs.size=some (seqObj "list" out n) ->
      IntsAre out.toList ns'->ns'.Perm ks->ns'.Pairwise (·<=·)->Q (.ref s1.heap.objs.size) { s1 with heap:=h' }) :
    wpAny (model prog w) A (call (.builtin "sorted") [.ref a]) Q E s:=by
  obtain ⟨es,⟨ep,t,ho,hel,hb,hf,ht⟩,hK,hnd⟩:=hS
  have hsz:es.size=ks.length:=by rw [<- Array.length_toList,hK.length]
  refine Calls.call_function_entry kind_sorted plain_sorted entry_sorted (args_sorted1 _) ?_
  unfold Builtin.«sorted»
  refine wpAny_bind (m:=checkCount "sorted" 1 1 _) (wpAny_pure ?_)
  refine wpAny_bind (collect_set ?hh ho hf ht (fits_of_scanBound hb) λ s1 ord hp g1 o1 k1=>?_)
  case hh=>exact hh
  obtain ⟨ks',p1,hK'⟩:=KL.perm hp.symm hK
  have hI:=keys_ints hK'
  have hl:(ord.map (·.2)).length < 64:=by rw [List.length_map,hp.length_eq,Array.length_toList,hsz]; exact h64
  refine wpAny_bind (wpAny_newList ?_ (by rw [sizeLine_eq]; omega))
  have gL:(s1.heap.push (seqObj "list" (ord.map (·.2)).toArray 0)).get? s1.heap.objs.size=some (seqObj "list" (ord.map (·.2)).toArray 0):=Heap.get?_push_size _ rfl
  refine wpAny_bind (wpAny_holding (wpAny_call_entry slot_list_sort ⟨_,gL,rfl⟩ entry_list_sort (list_sort_tree (s:={ s1 with heap:=s1.heap.push (seqObj "list" (ord.map (·.2)).toArray 0) }) gL hI hl λ out ns' a1 a2 a3=>⟨_,rfl,?_⟩) (args_list_sort _)))
  obtain ⟨n,gn⟩:=sortedHeap_at (out:=out) gL
  refine wpAny_pure ⟨_,rfl,h s1 _ _ n ns' g1 o1 k1 (λ b o q=>?_) gn a1 (a2.trans p1.symm) a3⟩
  have lt:=Heap.lt_size q
  exact (sortedHeap_old (Nat.ne_of_lt lt) (by rw [size_push']; exact Nat.lt_succ_of_lt lt)).trans (Heap.get?_push_of_some _ q)
theorem sorted_set_str {ks:List Str} {Q:Value->Shared->Prop} (hh:A.handled=none) (hS:SetK (PySem.strKind prog w) s.heap a (ledOf w) ks) (h64:ks.length < 64)
    (h:∀ (s1:Shared) (h':Heap) (out:Array Value) (n:Nat) (ns':List Str),s1.gens=s.gens->s1.os=s.os->(∀ b o,s.heap.get? b=some o->s1.heap.get? b=some o)->(∀ b o,s1.heap.get? b=some o->h'.get? b=some o)->h'.get? s1.heap.objs.size=some (seqObj "list" out n) ->
      StrsAre out.toList ns'->ns'.Perm ks->sortedS ns'=true->Q (.ref s1.heap.objs.size) { s1 with heap:=h' }) :
    wpAny (model prog w) A (call (.builtin "sorted") [.ref a]) Q E s:=by
  obtain ⟨es,⟨ep,t,ho,hel,hb,hf,ht⟩,hK,hnd⟩:=hS
  have hsz:es.size=ks.length:=by rw [<- Array.length_toList,hK.length]
  refine Calls.call_function_entry kind_sorted plain_sorted entry_sorted (args_sorted1 _) ?_
  unfold Builtin.«sorted»
  refine wpAny_bind (m:=checkCount "sorted" 1 1 _) (wpAny_pure ?_)
  refine wpAny_bind (collect_set ?hh ho hf ht (fits_of_scanBound hb) λ s1 ord hp g1 o1 k1=>?_)
  case hh=>exact hh
  obtain ⟨ks',p1,hK'⟩:=KL.perm hp.symm hK
  have hI:=keys_strs hK'
  have hl:(ord.map (·.2)).length < 64:=by rw [List.length_map,hp.length_eq,Array.length_toList,hsz]; exact h64
  refine wpAny_bind (wpAny_newList ?_ (by rw [sizeLine_eq]; omega))
  have gL:(s1.heap.push (seqObj "list" (ord.map (·.2)).toArray 0)).get? s1.heap.objs.size=some (seqObj "list" (ord.map (·.2)).toArray 0):=Heap.get?_push_size _ rfl
  refine wpAny_bind (wpAny_holding (wpAny_call_entry slot_list_sort ⟨_,gL,rfl⟩ entry_list_sort (list_sort_treeK (s:={ s1 with heap:=s1.heap.push (seqObj "list" (ord.map (·.2)).toArray 0) }) strKind_oneLt gL hI.keysOf (λ v₁ v₂ rest e=>keyKind_strs (by rw [<- e]; exact hI)) hl λ st' hp1 hs1=>⟨_,rfl,?_⟩) (args_list_sort _)))
  obtain ⟨ns',a1,a2,a3⟩:=sorted_out_str hI hp1 hs1
  obtain ⟨n,gn⟩:=sortedHeap_at (out:=(arrOf st').map (·.2)) gL
  refine wpAny_pure ⟨_,rfl,h s1 _ _ n ns' g1 o1 k1 (λ b o q=>?_) gn a1 (a2.trans p1.symm) a3⟩
  have lt:=Heap.lt_size q
  exact (sortedHeap_old (Nat.ne_of_lt lt) (by rw [size_push']; exact Nat.lt_succ_of_lt lt)).trans (Heap.get?_push_of_some _ q)
end
end Wy


namespace Wy
open PySem PySem.Spec PyProof.Rows L2 HT
noncomputable def ded {K:Type} [DecidableEq K]:List K->List K
  | []=>[]
  | x::xs=>if x∈ded xs then ded xs else x::ded xs
theorem ded_mem {K:Type} [DecidableEq K] {k:K}:∀ {xs:List K},k∈ded xs↔k∈xs
  | []=>Iff.rfl
  | x::xs=>by
    unfold ded
    split
    · rename_i h
      rw [ded_mem (xs:=xs),List.mem_cons]
      exact ⟨.inr,λ z=>z.elim (λ e=>by rw [e]; exact ded_mem.mp h) id⟩
    · rw [List.mem_cons,List.mem_cons,ded_mem (xs:=xs)]
theorem ded_nodup {K:Type} [DecidableEq K]:∀ (xs:List K),(ded xs).Nodup
  | []=>.nil
  | x::xs=>by
    unfold ded
    split
    · exact ded_nodup xs
    · rename_i h
      exact List.nodup_cons.mpr ⟨h,ded_nodup xs⟩
theorem ded_perm {K:Type} [DecidableEq K] {ks xs:List K} (h:ks.Nodup) (hm:∀ k,k∈ks↔k∈xs):ks.Perm (ded xs) :=
  (List.perm_ext_iff_of_nodup h (ded_nodup xs)).mpr λ k=>(hm k).trans ded_mem.symm
theorem mem_getD {K:Type} {xs:List K} {d:K} {k:K}:(∃ j,j < xs.length/\xs.getD j d=k)↔k∈xs:=by
  constructor
  · rintro ⟨j,hj,rfl⟩
    rw [List.getD_eq_getElem?_getD,List.getElem?_eq_getElem hj]
    exact List.getElem_mem hj
  · intro h
    obtain ⟨j,hj,e⟩:=List.mem_iff_getElem.mp h
    exact ⟨j,hj,by rw [List.getD_eq_getElem?_getD,List.getElem?_eq_getElem hj]; exact e⟩
section
variable {X:Cx} {pins:List (Addr×Obj)} {σ:L2.St} {H:Hp} {s:Shared}
theorem Inv.keptD {h':Heap} {t':Nat} {d':Drawn} (I:L2.Inv X pins σ H s) (kp:∀ b o,s.heap.get? b=some o->h'.get? b=some o):L2.Inv X pins σ H { s with heap:=h',drawn:=d',toks:=t' }:=by
  refine I.step (g':=s.gens) (d':=d') (ch:=[]) (λ b hb=>absurd hb (by simp)) (λ b o _ _ hc g _=>kp b o g) (λ b o _ _ hc g _=>⟨o.slots,kp b o g⟩) (λ b o _ g n=>n)
    (λ b o hc g=>⟨o,kp b o g⟩) (λ b ys g=>g) (λ b o ys g=>g) (λ b ps g=>⟨#[],by rw [g]; simp⟩) (λ m hm=>?_) (λ b o g=>?_) I.bare
  · obtain ⟨o,es,ep,g,r⟩:=hm
    exact ⟨o,es,ep,kp _ o g,r⟩
  · exact (I.hok b o g).stay (λ c v hc gv=>kp c v gv) (λ c gc=>gc) λ c ys gc=>gc
noncomputable def setExt {K:Type} [DecidableEq K] (X:Cx) (knd:PySem.KeyKind X.prog X.w K) (S:Addr) (ks:List K):HO:=.ext λ h=>SetK knd h S (ledOf X.w) ks
theorem setExt_ok {K:Type} [DecidableEq K] {knd:PySem.KeyKind X.prog X.w K} {S:Addr} {ks:List K} {h:Heap} {H:Hp} (hS:SetK knd h S (ledOf X.w) ks):ObjOk X.prog X.w H h S (setExt X knd S ks) :=
  ⟨hS,by obtain ⟨es,⟨ep,t,ho,_⟩,_⟩:=hS; exact ⟨_,ho⟩,λ h1 h2 q k=>by
    obtain ⟨es,hs,r⟩:=q
    exact ⟨es,hs.at k,r⟩⟩
noncomputable def SqB (K:PySem.W.Frag) (b:Bool) (H:Hp) (a:Addr) (vs:List V):Prop:=match b with
  | true=>SqT K H a vs
  | false=>SqL K H a vs
theorem call_setK {K:Type} [DecidableEq K] (knd:PySem.KeyKind X.prog X.w K) (mk:K->V) (d:K) (hmk:∀ k u,RelV (mk k) u->knd.is k u=true/\u.scannable=true) (hc:X.calm=true) :
    CallR X (.type "set") (λ xs H Q=>∃ (b:Bool) (p:Addr) (ns:List K),xs=[.ref p]/\SqB X.K b H p (ns.map mk)/\ns.length < 64/\∀ S ks,H S=none->ks.Perm (ded ns)->Q (.ref S) (upd H S (setExt X knd S ks))):=by
  rintro pins s σ H xs us Q I rv ⟨b,p,ns,rfl,hs,hl,q⟩
  obtain ⟨u,rfl,ru⟩:=rv.one
  obtain rfl:u=Value.ref p:=ru
  have main:∀ its:List Value,Vals (ns.map mk) its->(∀ i v,its.toArray[i]?=some v->knd.is (ns.getD i d) v=true/\v.scannable=true):=λ its vv i v hv=>by
    have hv':its[i]?=some v:=by simpa using hv
    have hlen:=vv.length
    rw [List.length_map] at hlen
    have hi:i < ns.length:=by rw [hlen]; exact (List.getElem?_eq_some_iff.mp hv').1
    obtain ⟨u,hu,ru⟩:=vv.get (i:=i) (x:=mk ns[i]) (by rw [List.getElem?_map,List.getElem?_eq_getElem hi]; rfl)
    rw [hv'] at hu
    cases hu
    rw [List.getD_eq_getElem?_getD,List.getElem?_eq_getElem hi]
    exact hmk _ _ ru
  have fin:∀ (its:List Value),Vals (ns.map mk) its->∀ (h':Heap) (tk:Nat) (ks:List K),SetK knd h' s.heap.objs.size (ledOf X.w) ks->ks.length<=its.toArray.size->(∀ k,k∈ks↔∃ j,j < its.toArray.size/\ns.getD j d=k) ->
      (∀ b o,b < s.heap.objs.size->s.heap.get? b=some o->h'.get? b=some o)->EP X pins σ Q (.ref s.heap.objs.size) { s with heap:=h',toks:=tk }:=λ its vv h' tk ks hS hlen hmem kp=>by
    have hn:=vv.length
    rw [List.length_map] at hn
    refine ⟨.ref s.heap.objs.size,_,I.laid (t':=tk) (o:=setExt X knd s.heap.objs.size ks) (λ b o e=>kp b o (Heap.lt_size e) e) (Nat.le_refl _) (setExt_ok hS),rfl,q _ ks I.fresh ?_⟩
    obtain ⟨es,h1,h2,h3⟩:=hS
    refine ded_perm h3 λ k=>(hmem k).trans ?_
    rw [<- mem_getD (xs:=ns) (d:=d)]
    simp [hn]
  cases b with
  | true =>
    obtain ⟨its,vv,pl,_⟩:=I.tuple hs
    have hlen:=vv.length
    rw [List.length_map] at hlen
    exact call_set_T (knd:=knd) (I.ok.hd hc) (show s.heap.IsTuple p its.toArray from pl) (main its vv) (by show its.toArray.size + 1 < scanBound; unfold scanBound; simp; omega) (fin its vv)
  | false =>
    obtain ⟨its,vv,pl,_⟩:=I.list hs
    have hlen:=vv.length
    rw [List.length_map] at hlen
    exact call_set_L (knd:=knd) (I.ok.hd hc) pl.isList (main its vv) (by show its.toArray.size + 1 < scanBound; unfold scanBound; simp; omega) (fin its vv)
theorem call_sortI (hc:X.calm=true):CallR X (.builtin "sorted") (λ xs H Q=>∃ (S:Addr) (ks:List Int),xs=[.ref S]/\H S=some (setExt X (intKind X.prog X.w) S ks)/\ks.length < 64/\∀ l,H l=none->Q (.ref l) (upd H l (.lst ((srt ks).map V.int)))):=by
  rintro pins s σ H xs us Q I rv ⟨S,ks,rfl,hS,hl,q⟩
  obtain ⟨u,rfl,ru⟩:=rv.one
  obtain rfl:u=Value.ref S:=ru
  have hs:=(I.hok S _ hS).1
  refine sorted_set_int (I.ok.hd hc) hs hl λ s1 h' out n ns' g1 o1 k1 k2 gr a1 a2 a3=>?_
  obtain ⟨h1,gs,dr,tk,os⟩:=s1
  cases g1
  cases o1
  have I1:=Inv.keptD (d':=dr) (t':=tk) I k1
  have e:=srt_uniq a2 a3
  subst e
  refine ⟨.ref h1.objs.size,_,I1.laid (t':=tk) (o:=.lst ((srt ks).map V.int)) (λ b o e=>k2 b o e) (Nat.le_refl _) ⟨?_,out.toList,n,vals_ints a1,by simpa using gr⟩,rfl,q _ (I1.hok.fresh (Nat.le_refl _))⟩
  rw [List.length_map,(srt_perm ks).length_eq]
  exact Nat.le_trans (Nat.le_of_lt hl) (by decide)
end
end Wy


namespace Wy
open PySem PySem.Spec PyProof.Rows L2 HT
noncomputable def leT (a b:Str):Prop:=a.cps.toList<=b.cps.toList
theorem leT_iff {a b:Str}:ltCps b.cps.toList a.cps.toList=false↔leT a b:=by
  rw [ltCps_eq]
  unfold leT
  rw [decide_eq_false_iff_not]
  exact List.not_lt
theorem leT_trans {a b c:Str} (h1:leT a b) (h2:leT b c):leT a c:=List.le_trans h1 h2
theorem leT_anti {a b:Str} (h1:leT a b) (h2:leT b a):a=b:=by
  have e:=List.le_antisymm h1 h2
  obtain ⟨x⟩:=a
  obtain ⟨y⟩:=b
  have:x=y:=Array.toList_inj.mp e
  rw [this]
theorem rising_pw:∀ (x:Str) (r:List Str),risingS x r=true->(x::r).Pairwise leT
  | x,[],_=>by simp
  | x,y::r,h=>by
    unfold risingS at h
    rw [Bool.and_eq_true,Bool.not_eq_true'] at h
    have ih:=rising_pw y r h.2
    have hxy:=leT_iff.mp h.1
    refine List.pairwise_cons.mpr ⟨λ z hz=>?_,ih⟩
    rcases List.mem_cons.mp hz with rfl | hz
    · exact hxy
    · exact leT_trans hxy ((List.pairwise_cons.mp ih).1 z hz)
theorem sortedS_pw {l:List Str} (h:sortedS l=true):l.Pairwise leT:=by
  cases l with
  | nil=>exact .nil
  | cons x r=>exact rising_pw x r h
noncomputable def srtT (ss:List Str):List Str:=ss.mergeSort (λ a b=>!ltCps b.cps.toList a.cps.toList)
theorem srtT_perm (ss:List Str):(srtT ss).Perm ss:=List.mergeSort_perm ss _
theorem leT_total (a b:Str):leT a b∨leT b a:=List.le_total _ _
theorem srtT_sorted (ss:List Str):(srtT ss).Pairwise leT:=by
  have h:∀ a b:Str,(!ltCps b.cps.toList a.cps.toList)=true↔leT a b:=λ a b=>by rw [Bool.not_eq_true']; exact leT_iff
  have:=List.pairwise_mergeSort (le:=λ a b:Str=>!ltCps b.cps.toList a.cps.toList) (λ a b c h1 h2=>(h a c).mpr (leT_trans ((h a b).mp h1) ((h b c).mp h2)))
    (λ a b=>by rw [Bool.or_eq_true,h,h]; exact leT_total a b) ss
  exact this.imp λ q=>(h _ _).mp q
theorem srtT_uniq {ss ms:List Str} (h:ms.Perm ss) (hs:ms.Pairwise leT):ms=srtT ss :=
  List.Perm.eq_of_pairwise (λ a b _ _ h1 h2=>leT_anti h1 h2) hs (srtT_sorted ss) (h.trans (srtT_perm ss).symm)
theorem vals_strsT:∀ {us:List Value} {ns:List Str},StrsAre us ns->Vals (ns.map V.str) us
  | _,_,.nil=>.nil
  | _,_,.cons n t r=>.cons ⟨_,rfl⟩ (vals_strsT r)
section
variable {X:Cx}
theorem call_sortT (hc:X.calm=true):CallR X (.builtin "sorted") (λ xs H Q=>∃ (S:Addr) (ks:List Str),xs=[.ref S]/\H S=some (setExt X (PySem.strKind X.prog X.w) S ks)/\ks.length < 64/\∀ l,H l=none->Q (.ref l) (upd H l (.lst ((srtT ks).map V.str)))):=by
  rintro pins s σ H xs us Q I rv ⟨S,ks,rfl,hS,hl,q⟩
  obtain ⟨u,rfl,ru⟩:=rv.one
  obtain rfl:u=Value.ref S:=ru
  have hs:=(I.hok S _ hS).1
  refine sorted_set_str (I.ok.hd hc) hs hl λ s1 h' out n ns' g1 o1 k1 k2 gr a1 a2 a3=>?_
  obtain ⟨h1,gs,dr,tk,os⟩:=s1
  cases g1
  cases o1
  have I1:=Inv.keptD (d':=dr) (t':=tk) I k1
  have e:=srtT_uniq a2 (sortedS_pw a3)
  subst e
  refine ⟨.ref h1.objs.size,_,I1.laid (t':=tk) (o:=.lst ((srtT ks).map V.str)) (λ b o e=>k2 b o e) (Nat.le_refl _) ⟨?_,out.toList,n,vals_strsT a1,by simpa using gr⟩,rfl,q _ (I1.hok.fresh (Nat.le_refl _))⟩
  rw [List.length_map,(srtT_perm ks).length_eq]
  exact Nat.le_trans (Nat.le_of_lt hl) (by decide)
theorem srt_congr {a b:List Int} (h:a.Perm b):srt a=srt b:=srt_uniq ((srt_perm a).trans h) (srt_sorted a)
theorem srtT_congr {a b:List Str} (h:a.Perm b):srtT a=srtT b:=srtT_uniq ((srtT_perm a).trans h) (srtT_sorted a)
theorem ded_len {K:Type} [DecidableEq K]:∀ (xs:List K),(ded xs).length<=xs.length
  | []=>Nat.le_refl _
  | x::xs=>by
    have:=ded_len xs
    unfold ded
    split <;> simp <;> omega
variable {W:XP} {e:Expr} {fs:Ga->R (Bool×List D)} {pos pos' p2 p3:Pos}
noncomputable def sortSetD (ds:List D):Option (List D):=match asIs ds with
  | some ns=>if ns.length < 64 then some ((srt (ded ns)).map D.int) else none
  | none=>match asSs ds with
    | some ss=>if ss.length < 64 then some ((srtT (ded ss)).map D.str) else none
    | none=>none
noncomputable def oSortSet (fs:Ga->R (Bool×List D)):Ga->R (List D):=λ Γ=>(fs Γ).bind λ p=>.ofO (sortSetD p.2)
theorem ow_sortset (hc:X.calm=true) (hg:Gl X "sorted") (hm:X.mg "sorted"=none) (hg2:Gl X "set") (hm2:X.mg "set"=none) (ha:SqD X W e fs)
    (hs:starEach [e] X.env=[(false,eval e X.env)]:=by rfl) (hs2:starEach [.Call (.Name "set" p3) [e] [] pos'] X.env=[(false,eval (.Call (.Name "set" p3) [e] [] pos') X.env)]:=by rfl) :
    OwD X W (.Call (.Name "sorted" p2) [.Call (.Name "set" p3) [e] [] pos'] [] pos) (oSortSet fs):=by
  obtain ⟨t,p,q⟩:=ha
  have kI:∀ (k:Int) (u:Value),RelV (.int k) u->(intKind X.prog X.w).is k u=true/\u.scannable=true:=λ k u ⟨tk,h⟩=>by
    subst h; exact ⟨intKind_is _ _ _ _,rfl⟩
  have kS:∀ (k:Str) (u:Value),RelV (.str k) u->(PySem.strKind X.prog X.w).is k u=true/\u.scannable=true:=λ k u ⟨tk,h⟩=>by
    subst h; exact ⟨by simp [PySem.strKind,Value.isStrOf],rfl⟩
  refine ⟨_,pe_callB ((call_sortI hc).or (call_sortT hc)) hg hm boot_sorted (pa_cons (pe_callTy ((call_setK (intKind X.prog X.w) V.int 0 kI hc).or (call_setK (PySem.strKind X.prog X.w) V.str "" kS hc)) hg2 hm2 boot_set (pa_cons p pa_nil hs) (by decide) (by decide) hs rfl) pa_nil hs2) (by decide) (by decide) hs2 rfl,λ H₀ G₀ Γ σ H G R Q w=>?_⟩
  refine q _ _ _ _ _ _ R _ (wStep w (λ _ h=>h) λ pp w a vs H1 G1 E1 s1 l1=>?_)
  obtain ⟨ds,e2,w⟩:=wOfO w
  obtain ⟨b,xs⟩:=pp
  have sq:SqB X.K b H1 a vs:=by
    cases b with
    | true=>exact Same.seqT E1.gh s1
    | false=>exact s1
  unfold sortSetD at e2
  dsimp only at e2
  split at e2
  · rename_i ns e3
    split at e2
    · rename_i hl
      cases e2
      have:=asIs_den l1 e3
      subst this
      refine .inl ⟨b,a,ns,rfl,sq,hl,λ S ks hS hp=>.inl ⟨S,ks,rfl,upd_same,?_,λ r hr=>?_⟩⟩
      · rw [hp.length_eq]; exact Nat.lt_of_le_of_lt (ded_len ns) hl
      · rw [srt_congr hp]
        have E2:Ext H1 G1 (upd H1 S (setExt X (intKind X.prog X.w) S ks)) G1:=.own E1.gh hS _
        have E3:=Ext.own (p:=r) E2.gh hr (.lst ((srt (ded ns)).map V.int))
        have nS:r≠S:=λ z=>by rw [z,upd_same] at hr; cases hr
        have hr1:H1 r=none:=by rw [upd_ne nS] at hr; exact hr
        exact w r _ _ G1 (E1.trans (E2.trans E3)) (E1.hh.free hr1) upd_same (E1.gh.free hr1) (denL_ints _)
    · cases e2
  · split at e2
    · rename_i ss e3
      split at e2
      · rename_i hl
        cases e2
        have:=asSs_den l1 e3
        subst this
        refine .inr ⟨b,a,ss,rfl,sq,hl,λ S ks hS hp=>.inr ⟨S,ks,rfl,upd_same,?_,λ r hr=>?_⟩⟩
        · rw [hp.length_eq]; exact Nat.lt_of_le_of_lt (ded_len ss) hl
        · rw [srtT_congr hp]
          have E2:Ext H1 G1 (upd H1 S (setExt X (PySem.strKind X.prog X.w) S ks)) G1:=.own E1.gh hS _
          have E3:=Ext.own (p:=r) E2.gh hr (.lst ((srtT (ded ss)).map V.str))
          have nS:r≠S:=λ z=>by rw [z,upd_same] at hr; cases hr
          have hr1:H1 r=none:=by rw [upd_ne nS] at hr; exact hr
          exact w r _ _ G1 (E1.trans (E2.trans E3)) (E1.hh.free hr1) upd_same (E1.gh.free hr1) (denL_strs _)
      · cases e2
    · cases e2
end
end Wy


namespace Wy
open PySem PySem.Spec PyProof.Rows L2 HT
section
variable {X:Cx}
variable {W:XP} {e:Expr} {f:Ga->R D} {pos pos' p2 p3:Pos}
end
end Wy


namespace Lw
open PySem PySem.Spec PyProof.Rows L2 Wy Wl
noncomputable abbrev N_q2:List Str:=["_law_yard_here","_law_world","_law_some"]
noncomputable def L_q2_2:Ga->RS:=(sSeq (sIf (tOrR (tNotR (tTru (eIsi gTuple (eV 2)))) (tB (e2 neD (eO (oList (sV 2))) (eO (oSortSet (sV 2)))))) (sRet (eC (.bl false))) sNext) (sIf (tNotR (tTru (eS allS (sO (cpR (iT (eV 2)) cTrue (eAnd (eIsi gInt (eV 0)) (eAnd (eNot (eIsi gBool (eV 0))) (e3 (int2 λ i j=>some (.bl (decide (i<=j)))) ltD (eC (.int 0)) (eV 0) (eB lenD (aCons (eV 2) aNil)))))))))) (sRet (eC (.bl false))) sNext))
noncomputable def L_q2_1:Ga->RS:=(sSeq (sIf (tOrR (tNotR (tTru (eIsi gTuple (eV 1)))) (tOrR (tB (e2 neD (eB lenD (aCons (eV 1) aNil)) (eC (.int 2)))) (tNotR (tTru (eIsi gTuple (e2 ixD (eV 1) (eC (.int 0)))))))) (sRet (eC (.bl false))) sNext) (sSeq (sIf (tOrR (tB (e2 neD (eO (oList (sE (e2 ixD (eV 1) (eC (.int 0)))))) (eO (oSortSet (sE (e2 ixD (eV 1) (eC (.int 0)))))))) (tOrR (tNotR (tTru (eIsi gTuple (e2 ixD (eV 1) (eC (.int 1)))))) (tB (e2 neD (eB lenD (aCons (e2 ixD (eV 1) (eC (.int 1))) aNil)) (eC (.int 3)))))) (sRet (eC (.bl false))) sNext) (sFor (iT (e2 ixD (eV 1) (eC (.int 1)))) (gName' 2) (L_q2_2))))
noncomputable def B_q2:Ga->RS:=(sSeq (sIf (tOrR (tNotR (tTru (eIsi gTuple (eV 0)))) (tB (e2 eqD (eB lenD (aCons (eV 0) aNil)) (eC (.int 0))))) (sRet (eC (.bl false))) sNext) (sSeq (sFor (iT (eV 0)) (gName' 1) (L_q2_1)) (sRet (eC (.bl true)))))
noncomputable def M_q2:List D->R D:=λ ds=>callR N_q2 (B_q2) ds
end Lw


namespace L14
open PySem PySem.Spec PyProof.Rows L2 Wy Wl Lw
noncomputable def t_YardError:Str->Option Bool:=λ c=>if c∈(["YardError","NoWorld"]:List Str) then some true else none
noncomputable def y_NoWorld:Str->Bool:=λ c=>decide (c∈(["NoWorld"]:List Str))
noncomputable def y_ValueError:Str->Bool:=λ c=>decide (c∈(["YardError","NoWorld"]:List Str))
noncomputable abbrev N_q5:List Str:=["_law_yard_here","_law_some","_law_world","_law_saying_here","_law_both","_law_told"]
noncomputable def B_q5 (M_q5:List D->R D):Ga->RS:=(sSeq (sIf (tB (e2 eqD (e2 ixD (eV 3) (eC (.int 0))) (eC (.str "name")))) (sRet (e2 memA (e2 ixD (eV 3) (eC (.int 1))) (e2 ixD (e2 ixD (eV 0) (eV 2)) (eC (.int 0))))) sNext) (sSeq (sIf (tB (e2 eqD (e2 ixD (eV 3) (eC (.int 0))) (eC (.str "not")))) (sRet (eNot (eCall M_q5 (aCons (eV 0) (aCons (eV 1) (aCons (eV 2) (aCons (e2 ixD (eV 3) (eC (.int 1))) aNil))))))) sNext) (sSeq (sIf (tB (e2 memA (e2 ixD (eV 3) (eC (.int 0))) (eO (aCons (eC (.str "and")) (aCons (eC (.str "or")) aNil))))) (sSeq (sSet 4 (eO (cpR (iT (eSlA (eV 3) (oI (eC (.int 1))) oN)) cTrue (eCall M_q5 (aCons (eV 2) (aCons (eV 3) (aCons (eV 4) (aCons (eV 0) aNil)))))))) (sRet (eOr (eAnd (e2 ixD (eV 4) (eC (.int 0))) (e2 ixD (eV 4) (eC (.int 1)))) (eAnd (e2 eqD (e2 ixD (eV 3) (eC (.int 0))) (eC (.str "or"))) (eOr (e2 ixD (eV 4) (eC (.int 0))) (e2 ixD (eV 4) (eC (.int 1)))))))) sNext) (sSeq (sSet 5 (eO (cpR (iT (e2 ixD (e2 ixD (e2 ixD (eV 0) (eV 2)) (eC (.int 1))) (e2 ixD (eV 3) (eC (.int 1))))) (tB (e2 memA (eV 0) (eV 3))) (eCall M_q5 (aCons (eV 2) (aCons (eV 3) (aCons (eV 0) (aCons (e2 ixD (eV 5) (eC (.int 2))) aNil)))))))) (sSeq (sIf (tB (e2 eqD (e2 ixD (eV 3) (eC (.int 0))) (eC (.str "all")))) (sRet (eS allS (sV 5))) sNext) (sRet (eS anyS (sV 5))))))))
noncomputable def M_q5:Nat->List D->R D
  | 0,_=>.no
  | n + 1,ds=>callR N_q5 (B_q5 (M_q5 n)) ds
noncomputable abbrev N_q1:List Str:=["_law_yard_here","_law_saying_here","_law_told","e"]
noncomputable def L_q1_1 (M_q6:List D->R D):Ga->RS:=(sDrop (eCall M_q6 (aCons (eV 0) (aCons (eV 1) aNil))))
noncomputable def L_q1_2:Ga->RS:=(sSet 2 (eAnd (eIsx 3 y_NoWorld) (eIsx 3 y_ValueError)))
noncomputable def B_q1 (M_q6:List D->R D):Ga->RS:=(sSeq (sSet 2 (eC (.bl false))) (sSeq (sTry t_YardError (L_q1_1 M_q6) (hNamed 3 (L_q1_2))) (sRet (eV 2))))
noncomputable abbrev N_law:List Str:=["_law_script","_law_yard_here","_law_a","_law_some","_law_found","_law_k","_law_world","_law_cell_here","_law_saying_here"]
noncomputable def L_law_2 (M_q4:List D->R D) (M_q20:List D->R D) (M_q5:List D->R D):Ga->RS:=(sSeq (sSet 8 (eCall M_q4 (aCons (eV 7) (aCons (eC (.int 3)) aNil)))) (sIf (tB (e2 neD (eCall M_q20 (aCons (eV 4) (aCons (eV 5) (aCons (eV 8) aNil)))) (eCall M_q5 (aCons (eV 1) (aCons (eV 3) (aCons (eV 6) (aCons (eV 8) aNil))))))) (sRet (eC (.bl false))) sNext))
noncomputable def L_law_1 (M_q4:List D->R D) (M_q20:List D->R D) (M_q5:List D->R D):Ga->RS:=(sSeq (sIf (tB (e2 neD (e2 ixD (e2 ixD (eV 4) (eV 5)) (eC (.int 0))) (e2 ixD (e2 ixD (eV 1) (eV 6)) (eC (.int 0))))) (sRet (eC (.bl false))) sNext) (sFor (iL (eO (oSl (sV 0) (oI (eC (.int 10))) (oI (eC (.int 15)))))) (gName' 7) (L_law_2 M_q4 M_q20 M_q5)))
noncomputable def B_law (M_q11:List D->R D) (M_q9:List D->R D) (M_q4:List D->R D) (M_q7:List D->R D) (M_q1:List D->R D) (M_q6:List D->R D) (M_q2:List D->R D) (M_q20:List D->R D) (M_q5:List D->R D):Ga->RS:=(sSeq (sSet 1 (eCall M_q11 (aCons (eV 0) (aCons (eC (.int 0)) (aCons (e2 (int2 modI) (eCall M_q9 (aCons (eV 0) (aCons (eC (.int 8)) aNil))) (eC (.int 2))) aNil))))) (sSeq (sSet 2 (eCall M_q4 (aCons (eCall M_q9 (aCons (eV 0) (aCons (eC (.int 9)) aNil))) (aCons (eC (.int 3)) aNil)))) (sSeq (sSet 3 (eO (cpR (iR1 (aCons (eB lenD (aCons (eV 1) aNil)) aNil)) (tTru (eCall M_q7 (aCons (eV 3) (aCons (eV 0) (aCons (eV 4) aNil))))) (eV 0)))) (sSeq (sIf (tNotR (tTru (eV 3))) (sRet (eCall M_q1 (aCons (eV 1) (aCons (eV 2) aNil)))) sNext) (sSeq (sSet 4 (eCall M_q6 (aCons (eV 1) (aCons (eV 2) aNil)))) (sSeq (sIf (tOrR (tNotR (tTru (eCall M_q2 (aCons (eV 4) aNil)))) (tB (e2 neD (eB lenD (aCons (eV 4) aNil)) (eB lenD (aCons (eV 3) aNil))))) (sRet (eC (.bl false))) sNext) (sSeq (sFor (iE (eV 3)) (gTwo (gName' 5) (gName' 6)) (L_law_1 M_q4 M_q20 M_q5)) (sRet (eC (.bl true))))))))))
end L14


namespace Pg
open PySem PySem.Spec PyProof.Rows L2 Wy Wl Lw
noncomputable abbrev N_q15:List Str:=["thing"]
noncomputable def B_q15:Ga->RS:=(sRet (eAnd (eIsi gInt (eV 0)) (eNot (eIsi gBool (eV 0)))))
noncomputable def M_q15:List D->R D:=λ ds=>callR N_q15 (B_q15) ds
noncomputable abbrev N_q14:List Str:=["thing","bound"]
noncomputable def B_q14 (M_q15:List D->R D):Ga->RS:=(sRet (eAnd (eCall M_q15 (aCons (eV 0) aNil)) (e3 (int2 λ i j=>some (.bl (decide (i<=j)))) ltD (eC (.int 0)) (eV 0) (eV 1))))
noncomputable def M_q14:List D->R D:=λ ds=>callR N_q14 (B_q14 M_q15) ds
noncomputable abbrev N_q21:List Str:=["saying","head"]
noncomputable def B_q21:Ga->RS:=(sSeq (sSet 1 (e2 ixD (eV 0) (eC (.int 0)))) (sSeq (sIf (tB (e2 eqD (eV 1) (eC (.str "name")))) (sRet (eTup aNil)) sNext) (sSeq (sIf (tOrR (tB (e2 eqD (eV 1) (eC (.str "all")))) (tB (e2 eqD (eV 1) (eC (.str "some"))))) (sRet (eSlA (eV 0) (oI (eC (.int 2))) oN)) sNext) (sRet (eSlA (eV 0) (oI (eC (.int 1))) oN)))))
noncomputable def M_q21:List D->R D:=λ ds=>callR N_q21 (B_q21) ds
noncomputable abbrev N_q16:List Str:=["saying","found","waiting","part"]
noncomputable def L_q16_1 (M_q21:List D->R D):Ga->RS:=(sSeq (sPop 2 3) (sSeq (sApp 1 (eV 3)) (sExt 2 (sE (eRevT (eCall M_q21 (aCons (eV 3) aNil)))))))
noncomputable def B_q16 (M_q21:List D->R D):Ga->RS:=(sSeq (sSetO 1 aNil) (sSeq (sSetO 2 (aCons (eV 0) aNil)) (sSeq (sWhile (tB (e2 (int2 λ i j=>some (.bl (decide (j < i)))) (eS lenS (sV 2)) (eC (.int 0)))) (L_q16_1 M_q21)) (sRetO 1))))
noncomputable def M_q16:List D->R D:=λ ds=>callR N_q16 (B_q16 M_q21) ds
end Pg


namespace Wl
open PySem PySem.Spec PyProof.Rows L2 Wy
noncomputable def sizeS:Say->Nat
  | .nm _=>1
  | .neg a=>sizeS a + 1
  | .two _ a b=>sizeS a + sizeS b + 1
  | .way _ _ a=>sizeS a + 1
noncomputable def partsS:Say->List Say
  | .nm _=>[]
  | .neg a=>[a]
  | .two _ a b=>[a,b]
  | .way _ _ a=>[a]
theorem size_parts (s:Say):sizeS s=((partsS s).map sizeS).sum + 1:=by
  cases s <;> simp [sizeS,partsS]
theorem size_pos (s:Say):1<=sizeS s:=by rw [size_parts]; omega
theorem size_words:∀ s,sizeS s<=(words s).length
  | .nm _=>by simp [sizeS,words]
  | .neg a=>by have:=size_words a; simp [sizeS,words]; omega
  | .two _ a b=>by have:=size_words a; have:=size_words b; simp [sizeS,words]; omega
  | .way _ _ a=>by have:=size_words a; simp [sizeS,words]; omega
theorem words_W (s:Say):W (words s)=(txt s).length + 1:=by
  rw [<- join_words]
  exact (join_len (words_ne s)).symm
theorem size_txt (s:Say):sizeS s<=(txt s).length + 1:=by
  have h1:=size_words s
  have h2:=len_W (words s)
  rw [words_W] at h2
  omega
end Wl
namespace Pg
open PySem PySem.Spec PyProof.Rows L2 Wy Wl Lw
end Pg

namespace Pg
open PySem PySem.Spec PyProof.Rows L2 Wy Wl Lw
theorem m_q21 (s:Say):M_q21 [dS s]=.ok (.tup ((partsS s).map dS)):=by
  cases s with
  | nm x=>simp [M_q21,B_q21,begin_,partsS]
  | neg a =>
    have e:slA (dS (.neg a)) (some 1) none=some (.tup [dS a]):=by rw [dS,slA_tup]; rfl
    simp [M_q21,B_q21,begin_,partsS,e]
  | two c a b =>
    have e:slA (dS (.two c a b)) (some 1) none=some (.tup [dS a,dS b]):=by rw [dS,slA_tup]; rfl
    cases c <;> simp [M_q21,B_q21,begin_,partsS,e,hd2]
  | way c k a =>
    have e:slA (dS (.way c k a)) (some 2) none=some (.tup [dS a]):=by rw [dS,slA_tup]; rfl
    cases c <;> simp [M_q21,B_q21,begin_,partsS,e,hdw]
noncomputable def sumS (L:List Say):Nat:=(L.map sizeS).sum
theorem sumS_app (a b:List Say):sumS (a++b)=sumS a + sumS b:=by unfold sumS; rw [List.map_append,List.sum_append]
theorem len_sumS (L:List Say):L.length<=sumS L:=by
  induction L with
  | nil=>exact Nat.zero_le _
  | cons s L ih=>have:=size_pos s; unfold sumS at *; simp only [List.map_cons,List.sum_cons,List.length_cons]; omega
theorem snoc {L:List Say} (h:L≠[]):∃ L' s,L=L'++[s]:=⟨L.dropLast,L.getLast h,(List.dropLast_concat_getLast h).symm⟩
noncomputable def subs:Say->List Say
  | .nm x=>[.nm x]
  | .neg a=>.neg a::subs a
  | .two c a b=>.two c a b::(subs a++subs b)
  | .way c k a=>.way c k a::subs a
theorem subs_parts (s:Say):subs s=s::(partsS s).flatMap subs:=by cases s <;> simp [subs,partsS]
theorem subs_len:∀ s,(subs s).length=sizeS s
  | .nm _=>by simp [subs,sizeS]
  | .neg a=>by have:=subs_len a; simp [subs,sizeS]; omega
  | .two _ a b=>by have:=subs_len a; have:=subs_len b; simp [subs,sizeS]; omega
  | .way _ _ a=>by have:=subs_len a; simp [subs,sizeS]; omega
theorem m_q16 (s0:Say) (hsz:sizeS s0<=100000):M_q16 [dS s0]=.ok (.lst ((subs s0).map dS)):=by
  have key:∃ x3,sWhile (tB (e2 (int2 λ i j=>some (.bl (decide (j < i)))) (eS lenS (sV 2)) (eC (.int 0)))) (L_q16_1 M_q21) [.val (dS s0),.own [],.own [dS s0],.un]=.nx [.val (dS s0),.own ((subs s0).map dS),.own [],x3]:=by
    refine while_inv (λ m Γ=>∃ (acc L:List Say) (x3:Sl),Γ=[.val (dS s0),.own (acc.map dS),.own (L.map dS),x3]/\sumS L=m/\m<=100000/\acc++L.reverse.flatMap subs=subs s0)
      (λ r=>∃ x3,r=.nx [.val (dS s0),.own ((subs s0).map dS),.own [],x3]) (m:=sizeS s0) ⟨[],[s0],.un,rfl,by simp [sumS],hsz,by simp⟩ (Nat.lt_of_le_of_lt hsz (by decide)) ?_
    rintro m Γ ⟨acc,L,x3,rfl,hm,hle,hacc⟩
    by_cases hL:L=[]
    · subst hL
      refine .inl ⟨by simp,x3,?_⟩
      simp only [List.reverse_nil,List.flatMap_nil,List.append_nil] at hacc
      rw [hacc]
      rfl
    · obtain ⟨L',s,rfl⟩:=snoc hL
      have hsum:sumS L' + sizeS s=m:=by rw [sumS_app] at hm; simpa [sumS] using hm
      have hrev:sumS (partsS s).reverse=sumS (partsS s):=by unfold sumS; rw [List.map_reverse,List.sum_reverse]
      have hsz2:sumS (L'++(partsS s).reverse) + 1=m:=by rw [sumS_app,hrev,<- hsum,size_parts s]; unfold sumS; omega
      have hlen:L'.length + (partsS s).length < 16000000:=by have:=len_sumS (L'++(partsS s).reverse); rw [List.length_append,List.length_reverse] at this; omega
      have hacc2:(acc++[s])++(L'++(partsS s).reverse).reverse.flatMap subs=subs s0:=by
        rw [<- hacc]
        simp only [List.reverse_append,List.reverse_cons,List.reverse_nil,List.nil_append,List.reverse_reverse,List.flatMap_append,List.singleton_append,List.flatMap_cons]
        rw [subs_parts s]
        simp [List.append_assoc]
      have hal:acc.length < 16000000:=by
        have:=congrArg List.length hacc2
        rw [subs_len] at this
        simp only [List.length_append] at this
        omega
      have hpos:(0:Int) < (L'.length:Int) + 1:=by omega
      refine .inr ⟨by simp [hpos],.inl ⟨[.val (dS s0),.own ((acc++[s]).map dS),.own ((L'++(partsS s).reverse).map dS),.val (dS s)],m - 1,.inl ?_,by omega,acc++[s],L'++(partsS s).reverse,_,rfl,by omega,by omega,hacc2⟩⟩
      simp [L_q16_1,m_q21,hlen,hal]
  obtain ⟨x3,key⟩:=key
  simp [M_q16,B_q16,begin_,key]
end Pg


namespace Pg
open PySem PySem.Spec PyProof.Rows L2 Wy Wl Lw
noncomputable abbrev N_q12:List Str:=["saying","tell","ready","part","told"]
noncomputable def L_q12_1 (a_tell:Addr) (φ_tell:Hp->Prop) (M_q21:List D->R D) (M_tell:List D->R D):Ga->RS:=(sSeq (sSetCM 4 (iT (eCall M_q21 (aCons (eV 3) aNil))) (mPop 4)) (sFrz 4 (sApp 2 (eCallV 1 a_tell φ_tell M_tell (aCons (eV 3) (aCons (eV 4) aNil))))))
noncomputable def B_q12 (a_tell:Addr) (φ_tell:Hp->Prop) (M_tell:List D->R D) (M_q16:List D->R D) (M_q21:List D->R D):Ga->RS:=(sSeq (sSetO 2 aNil) (sSeq (sFor (iRev (eCall M_q16 (aCons (eV 0) aNil))) (gName' 3) (L_q12_1 a_tell φ_tell M_q21 M_tell)) (sRetM (mPop 2))))
end Pg


namespace Pg
open PySem PySem.Spec PyProof.Rows L2 Wy Wl Lw
noncomputable def Runs (g:D->Ga->Option Ga) (T:Ga->RS):List D->Ga->Ga->Prop
  | [],Γ,Γ'=>Γ=Γ'
  | d::ds,Γ,Γ'=>∃ Γ1 Γ2,g d Γ=some Γ1/\T Γ1=.nx Γ2/\Runs g T ds Γ2 Γ'
theorem Runs.append {g:D->Ga->Option Ga} {T:Ga->RS}:∀ {a b:List D} {Γ Γ1 Γ2:Ga},Runs g T a Γ Γ1->Runs g T b Γ1 Γ2->Runs g T (a++b) Γ Γ2
  | [],_,_,_,_,h,h'=>by cases h; exact h'
  | d::a,b,_,_,_,⟨x,y,e1,e2,h⟩,h'=>⟨x,y,e1,e2,Runs.append h h'⟩
theorem Runs.turns {g:D->Ga->Option Ga} {T:Ga->RS}:∀ {a:List D} {Γ Γ1:Ga},Runs g T a Γ Γ1->sTurns g T a Γ=.nx Γ1
  | [],_,_,h=>by cases h; rfl
  | d::a,_,_,⟨x,y,e1,e2,h⟩=>by
    unfold sTurns
    rw [e1]
    simp only [e2]
    exact Runs.turns h
structure Told (p:Say->Prop) (T:List D->R D) (val:Say->D):Prop where
  at_:∀ s,p s->T [dS s,.lst ((partsS s).map val)]=.ok (val s)
  neg:∀ b,p (.neg b)->p b
  two:∀ c a b,p (.two c a b)->p a/\p b
  way:∀ c k a,p (.way c k a)->p a
section
variable {p:Say->Prop} {T:List D->R D} {val:Say->D} {a:Addr} {φ:Hp->Prop} {d0:D}
theorem turn_of (h:Told p T val) (s:Say) (hp:p s) (st:List D) (x3 x4:Sl) (hl:st.length < 15000000):L_q12_1 a φ M_q21 T [.val d0,.fn a φ,.own (st++((partsS s).map val).reverse),.val (dS s),x4]=.nx [.val d0,.fn a φ,.own (st++[val s]),.val (dS s),.val (.lst ((partsS s).map val))]:=by
  have e:=h.at_ s hp
  have hl':st.length < 16000000:=by omega
  cases s with
  | nm x =>
    simp only [partsS,List.map_nil,List.reverse_nil,List.append_nil] at e ⊢
    simp [L_q12_1,m_q21,partsS,sSetCM,compM,asT,eCallV,sFrz,e,hl']
  | neg b =>
    simp only [partsS,List.map_cons,List.map_nil,List.reverse_cons,List.reverse_nil,List.nil_append] at e ⊢
    simp [L_q12_1,m_q21,partsS,sSetCM,compM,asT,eCallV,sFrz,mPop,Sl.cont,Sl.put,e,hl']
  | two c b b' =>
    simp only [partsS,List.map_cons,List.map_nil,List.reverse_cons,List.reverse_nil,List.nil_append] at e ⊢
    simp [L_q12_1,m_q21,partsS,sSetCM,compM,asT,eCallV,sFrz,mPop,Sl.cont,Sl.put,e,hl']
  | way c k b =>
    simp only [partsS,List.map_cons,List.map_nil,List.reverse_cons,List.reverse_nil,List.nil_append] at e ⊢
    simp [L_q12_1,m_q21,partsS,sSetCM,compM,asT,eCallV,sFrz,mPop,Sl.cont,Sl.put,e,hl']
theorem one_turn (h:Told p T val) (s:Say) (hp:p s) (st:List D) (x3 x4:Sl) (hl:st.length < 15000000):∃ y3 y4,Runs (gName' 3) (L_q12_1 a φ M_q21 T) [dS s] [.val d0,.fn a φ,.own (st++((partsS s).map val).reverse),x3,x4] [.val d0,.fn a φ,.own (st++[val s]),y3,y4] :=
  ⟨_,_,_,_,rfl,turn_of h s hp st x3 x4 hl,rfl⟩
theorem runs_of (h:Told p T val):∀ (s:Say),p s->∀ (st:List D) (x3 x4:Sl),st.length + sizeS s < 15000000->∃ y3 y4,Runs (gName' 3) (L_q12_1 a φ M_q21 T) ((subs s).reverse.map dS) [.val d0,.fn a φ,.own st,x3,x4] [.val d0,.fn a φ,.own (st++[val s]),y3,y4]
  | .nm x,hp,st,x3,x4,hl=>by
    have:=one_turn (a:=a) (φ:=φ) (d0:=d0) h (.nm x) hp st x3 x4 (by omega)
    simpa [subs,partsS] using this
  | .neg b,hp,st,x3,x4,hl=>by
    have hb:=size_pos b
    rw [sizeS] at hl
    obtain ⟨y3,y4,r1⟩:=runs_of h b (h.neg b hp) st x3 x4 (by omega)
    obtain ⟨z3,z4,r2⟩:=one_turn (a:=a) (φ:=φ) (d0:=d0) h (.neg b) hp st y3 y4 (by omega)
    refine ⟨z3,z4,?_⟩
    rw [subs,List.reverse_cons,List.map_append]
    exact r1.append r2
  | .two c b b',hp,st,x3,x4,hl=>by
    have hb:=size_pos b
    have hb':=size_pos b'
    rw [sizeS] at hl
    obtain ⟨y3,y4,r1⟩:=runs_of h b' (h.two c b b' hp).2 st x3 x4 (by omega)
    obtain ⟨w3,w4,r2⟩:=runs_of h b (h.two c b b' hp).1 (st++[val b']) y3 y4 (by rw [List.length_append,List.length_singleton]; omega)
    obtain ⟨z3,z4,r3⟩:=one_turn (a:=a) (φ:=φ) (d0:=d0) h (.two c b b') hp st w3 w4 (by omega)
    refine ⟨z3,z4,?_⟩
    rw [subs,List.reverse_cons,List.reverse_append,List.map_append,List.map_append]
    refine (r1.append r2).append ?_
    have e:st++[val b']++[val b]=st++((partsS (.two c b b')).map val).reverse:=by simp [partsS]
    rw [e]
    exact r3
  | .way c k b,hp,st,x3,x4,hl=>by
    have hb:=size_pos b
    rw [sizeS] at hl
    obtain ⟨y3,y4,r1⟩:=runs_of h b (h.way c k b hp) st x3 x4 (by omega)
    obtain ⟨z3,z4,r2⟩:=one_turn (a:=a) (φ:=φ) (d0:=d0) h (.way c k b) hp st y3 y4 (by omega)
    refine ⟨z3,z4,?_⟩
    rw [subs,List.reverse_cons,List.map_append]
    exact r1.append r2
end
theorem m_q12 {p:Say->Prop} {T:List D->R D} {val:Say->D} (h:Told p T val) (s:Say) (hp:p s) (hs:sizeS s<=100000):(par1 λ a φ=>callN N_q12 1 (B_q12 a φ T M_q16 M_q21) a φ [dS s])=.ok (val s):=by
  refine par1_eq λ a φ=>?_
  obtain ⟨y3,y4,r⟩:=runs_of (a:=a) (φ:=φ) (d0:=dS s) h s hp [] .un .un (by simp; omega)
  have e:=r.turns
  rw [List.nil_append] at e
  have ei:∀ Γ:Ga,eV 0 Γ=.ok (dS s)->iRev (eCall M_q16 (aCons (eV 0) aNil)) Γ=.ok ((subs s).reverse.map dS):=λ Γ h0=>by
    simp [iRev,h0,m_q16 s hs,asL]
  have e0:=ei [.val (dS s),.fn a φ,.own [],.un,.un] (by simp)
  have er:sRetM (mPop 2) [.val (dS s),.fn a φ,.own [val s],y3,y4]=.rt (val s):=by simp [sRetM,mPop,Sl.cont,Sl.put]
  simp [-List.map_reverse,callN,beginX,B_q12,e0,e,er]
end Pg


namespace Pg
open PySem PySem.Spec PyProof.Rows L2 Wy Wl Lw
noncomputable abbrev N_q17:List Str:=["world","kind","row"]
noncomputable def B_q17:Ga->RS:=(sRet (eO (cpR (iT (e2 ixD (e2 ixD (eV 0) (eC (.int 1))) (eV 1))) cTrue (e2 ixD (eV 4) (eV 0)))))
noncomputable def M_q17:List D->R D:=λ ds=>callR N_q17 (B_q17) ds
noncomputable abbrev N_q19:List Str:=["yard","saying","rows","head"]
noncomputable def B_q19 (M_q17:List D->R D):Ga->RS:=(sSeq (sSet 3 (e2 ixD (eV 1) (eC (.int 0)))) (sSeq (sIf (tB (e2 eqD (eV 3) (eC (.str "name")))) (sRet (eO (cpR (iT (eV 0)) cTrue (e2 memA (e2 ixD (eV 3) (eC (.int 1))) (e2 ixD (eV 0) (eC (.int 0))))))) sNext) (sSeq (sIf (tB (e2 eqD (eV 3) (eC (.str "not")))) (sRet (eO (cpR (iL (e2 ixD (eV 2) (eC (.int 0)))) cTrue (eNot (eV 0))))) sNext) (sSeq (sIf (tB (e2 eqD (eV 3) (eC (.str "and")))) (sRet (eO (cpR2 (iZ (aCons (e2 ixD (eV 2) (eC (.int 0))) (aCons (e2 ixD (eV 2) (eC (.int 1))) aNil))) cTrue (eAnd (eV 0) (eV 1))))) sNext) (sSeq (sIf (tB (e2 eqD (eV 3) (eC (.str "or")))) (sRet (eO (cpR2 (iZ (aCons (e2 ixD (eV 2) (eC (.int 0))) (aCons (e2 ixD (eV 2) (eC (.int 1))) aNil))) cTrue (eOr (eV 0) (eV 1))))) sNext) (sSeq (sIf (tB (e2 eqD (eV 3) (eC (.str "all")))) (sRet (eO (cpR (iT (eV 0)) cTrue (eS allS (sE (eCall M_q17 (aCons (eV 0) (aCons (e2 ixD (eV 3) (eC (.int 1))) (aCons (e2 ixD (eV 4) (eC (.int 0))) aNil))))))))) sNext) (sRet (eO (cpR (iT (eV 0)) cTrue (eS anyS (sE (eCall M_q17 (aCons (eV 0) (aCons (e2 ixD (eV 3) (eC (.int 1))) (aCons (e2 ixD (eV 4) (eC (.int 0))) aNil)))))))))))))))
noncomputable def M_q19:List D->R D:=λ ds=>callR N_q19 (B_q19 M_q17) ds
noncomputable abbrev N_q18:List Str:=["yard","saying"]
noncomputable def ML_q18 (M_q19:List D->R D):D->List D->R D:=λ d es=>(eCall M_q19 (aCons (eV 2) (aCons (eV 0) (aCons (eV 1) aNil)))) (beginL es d)
noncomputable def MI_q18 (M_q19:List D->R D) (M_q16:List D->R D) (M_q21:List D->R D):D->List D->R D:=λ d ds=>par1 λ a φ=>callN N_q12 1 (B_q12 a φ (ML_q18 M_q19 d) M_q16 M_q21) a φ ds
noncomputable def B_q18 (M_q19:List D->R D) (M_q16:List D->R D) (M_q21:List D->R D):Ga->RS:=(sRet (eCallL 0 (MI_q18 M_q19 M_q16 M_q21) (eV 1)))
noncomputable def M_q18:List D->R D:=λ ds=>callR N_q18 (B_q18 M_q19 M_q16 M_q21) ds
noncomputable abbrev N_q8:List Str:=["yard","world"]
noncomputable def B_q8 (M_q14:List D->R D):Ga->RS:=(sIf (tNotR (tTru (eCall M_q14 (aCons (eV 1) (aCons (eB lenD (aCons (eV 0) aNil)) aNil))))) (sRaise "NoWorld" (aCons (eC (.str "the yard has no such world")) aNil)) sNext)
noncomputable def M_q8:List D->R D:=λ ds=>callR N_q8 (B_q8 M_q14) ds
noncomputable abbrev N_q20:List Str:=["yard","world","saying"]
noncomputable def B_q20 (M_q8:List D->R D) (M_q18:List D->R D):Ga->RS:=(sSeq (sDrop (eCall M_q8 (aCons (eV 0) (aCons (eV 1) aNil)))) (sRet (e2 ixD (eCall M_q18 (aCons (eV 0) (aCons (eV 2) aNil))) (eV 1))))
noncomputable def M_q20:List D->R D:=λ ds=>callR N_q20 (B_q20 M_q8 M_q18) ds
end Pg


namespace Pg
open PySem PySem.Spec PyProof.Rows L2 Wy Wl Lw
theorem cp_of {α:Type} {it:Ga->R (List D)} {f:Ga->R D} {Γ:Ga} {l:List α} {g h:α->D} (h1:it Γ=.ok (l.map g)) (h2:l.length < 16000000) (h3:∀ a∈l,f (.val (g a)::.un::Γ)=.ok (h a)):cpR it cTrue f Γ=.ok (l.map h):=by
  have key:∀ m:List α,(∀ a∈m,f (.val (g a)::.un::Γ)=.ok (h a))->compR cTrue f Γ (m.map g)=.ok (m.map h):=by
    intro m
    induction m with
    | nil=>intro _; rfl
    | cons a m ih =>
      intro hm
      have e:=hm a List.mem_cons_self
      have e2:=ih λ b hb=>hm b (List.mem_cons_of_mem _ hb)
      rw [List.map_cons,compR]
      simp [cTrue,e,e2]
  rw [cpR_eq,h1,R.bind_ok,if_pos (by simpa using h2),key l h3]
theorem cp2_of {α:Type} {it:Ga->R (List D)} {f:Ga->R D} {Γ:Ga} {l:List α} {g1 g2 h:α->D} (h1:it Γ=.ok (l.map λ a=>D.tup [g1 a,g2 a])) (h2:l.length < 16000000) (h3:∀ a∈l,f (.val (g1 a)::.val (g2 a)::.un::Γ)=.ok (h a)):cpR2 it cTrue f Γ=.ok (l.map h):=by
  have key:∀ m:List α,(∀ a∈m,f (.val (g1 a)::.val (g2 a)::.un::Γ)=.ok (h a))->compR2 cTrue f Γ (m.map λ a=>D.tup [g1 a,g2 a])=.ok (m.map h):=by
    intro m
    induction m with
    | nil=>intro _; rfl
    | cons a m ih =>
      intro hm
      have e:=hm a List.mem_cons_self
      have e2:=ih λ b hb=>hm b (List.mem_cons_of_mem _ hb)
      rw [List.map_cons,compR2]
      simp [cTrue,Wy.pairD,e,e2]
  show (it Γ).bind _=_
  rw [h1,R.bind_ok,if_pos (by simpa using h2),key l h3]
theorem zipD_of {α:Type} {l:List α} {g1 g2:α->D}:zipD [.lst (l.map g1),.lst (l.map g2)]=some (l.map λ a=>D.tup [g1 a,g2 a]):=by
  show some _=_
  rw [List.zipWith_map,List.zipWith_self]
theorem yd_range (Y:List Wd):Y.map dWd=(List.range Y.length).map λ w=>dWd (wdAt Y w):=by
  refine List.ext_getElem? λ i=>?_
  rw [List.getElem?_map,List.getElem?_map]
  by_cases h:i < Y.length
  · rw [wdAt_get h,List.getElem?_range h]
    rfl
  · rw [List.getElem?_eq_none (by omega),List.getElem?_eq_none (by simp; omega)]
    rfl
noncomputable def vRow (Y:List Wd) (s:Say):D:=.lst ((List.range Y.length).map λ w=>D.bl (sat Y s w))
theorem row_at {Y:List Wd} {s:Say} {v:Nat} (h:v < Y.length):ixD (vRow Y s) (.int (v:Int))=some (.bl (sat Y s v)):=by
  show atI _ _=_
  refine atI_nat ?_
  rw [List.getElem?_map,List.getElem?_range h]
  rfl
theorem rising_len:∀ (r:List Nat) (a n:Nat),r.Pairwise (· < ·)->(∀ v∈r,a<=v/\v < n)->r.length + a<=n∨r=[]
  | [],a,n,_,_=>.inr rfl
  | x::r,a,n,hp,hv=>by
    obtain ⟨h1,h2⟩:=List.pairwise_cons.mp hp
    have hx:=hv x List.mem_cons_self
    rcases rising_len r (x + 1) n h2 (λ v hm=>⟨h1 v hm,(hv v (List.mem_cons_of_mem _ hm)).2⟩) with h | h
    · left; rw [List.length_cons]; omega
    · left; rw [h]; simp; omega
theorem row_len {Y:List Wd} (hY:YOk Y) {w k:Nat} (hw:w < Y.length):(rowAt Y w k).length<=Y.length:=by
  have hr:(rowAt Y w k).Pairwise (· < ·):=by
    unfold rowAt
    rw [List.getD_eq_getElem?_getD]
    cases e:(wdAt Y w).2[k]? with
    | none=>exact .nil
    | some r=>exact hY.rise _ (wdAt_mem hw) r (List.mem_of_getElem? e)
  rcases rising_len _ 0 Y.length hr (λ v hv=>⟨Nat.zero_le _,rowAt_there hY hw v hv⟩) with h | h
  · omega
  · rw [h]; simp
section
variable {Y:List Wd} (hY:YOk Y) (h5:Y.length<=100000)
include hY h5
theorem m_led {s:Say} {w k:Nat} (hw:w < Y.length) (hk:k < 3):M_q17 [dWd (wdAt Y w),.int (k:Int),vRow Y s]=.ok (.lst ((rowAt Y w k).map λ v=>D.bl (sat Y s v))):=by
  have e1:=ways_at hY hw hk
  have hl:=row_len hY (k:=k) hw
  have e:cpR (iT (e2 ixD (e2 ixD (eV 0) (eC (.int 1))) (eV 1))) cTrue (e2 ixD (eV 4) (eV 0)) [.val (dWd (wdAt Y w)),.val (.int (k:Int)),.val (vRow Y s)]=.ok ((rowAt Y w k).map λ v=>D.bl (sat Y s v)) :=
    cp_of (g:=λ (v:Nat)=>D.int (v:Int)) (by simp [e1,dRow,asT]) (by omega) λ v hv=>by simp [row_at (rowAt_there hY hw v hv)]
  simp [-cpR_eq,M_q17,B_q17,begin_,e]
theorem m_row:∀ (s:Say),okS s=true->M_q19 [dYd Y,dS s,.lst ((partsS s).map (vRow Y))]=.ok (vRow Y s)
  | .nm x,ho=>by
    have e:∀ Γ:Ga,Γ[0]?=some (.val (dYd Y))->Γ[1]?=some (.val (dS (.nm x)))->cpR (iT (eV 0)) cTrue (e2 memA (e2 ixD (eV 3) (eC (.int 1))) (e2 ixD (eV 0) (eC (.int 0)))) Γ=.ok ((List.range Y.length).map λ w=>D.bl (sat Y (.nm x) w)):=λ Γ h0 h1 =>
      cp_of (g:=λ w=>dWd (wdAt Y w)) (by rw [<- yd_range]; simp [eV,h0,dYd,asT]) (by simp; omega) λ w hw=>by
        simp [eV,h1,mem_names,sat]
    simp [-cpR_eq,M_q19,B_q19,begin_,e,vRow]
  | .neg a,ho=>by
    have e:∀ Γ:Ga,Γ[2]?=some (.val (.lst [vRow Y a]))->cpR (iL (e2 ixD (eV 2) (eC (.int 0)))) cTrue (eNot (eV 0)) Γ=.ok ((List.range Y.length).map λ w=>D.bl (sat Y (.neg a) w)):=λ Γ h0 =>
      cp_of (g:=λ w=>D.bl (sat Y a w)) (by simp [eV,h0,vRow,asL,atI_zero]) (by simp; omega) λ w hw=>by
        simp [sat]
    rw [show vRow Y (.neg a)=D.lst ((List.range Y.length).map λ w=>D.bl (sat Y (.neg a) w)) from rfl]
    simp [-cpR_eq,M_q19,B_q19,begin_,e,partsS]
  | .two true a b,ho=>by
    have e:∀ Γ:Ga,Γ[2]?=some (.val (.lst [vRow Y a,vRow Y b]))->cpR2 (iZ (aCons (e2 ixD (eV 2) (eC (.int 0))) (aCons (e2 ixD (eV 2) (eC (.int 1))) aNil))) cTrue (eAnd (eV 0) (eV 1)) Γ=.ok ((List.range Y.length).map λ w=>D.bl (sat Y (.two true a b) w)):=λ Γ h0 =>
      cp2_of (g1:=λ w=>D.bl (sat Y a w)) (g2:=λ w=>D.bl (sat Y b w)) (by simp [iZ,eV,h0,vRow,atI_zero,atI_one,zipD_of]) (by simp; omega) λ w hw=>by
        cases h:sat Y a w <;> simp [sat,h]
    rw [show vRow Y (.two true a b)=D.lst ((List.range Y.length).map λ w=>D.bl (sat Y (.two true a b) w)) from rfl]
    simp [-cpR_eq,M_q19,B_q19,begin_,e,partsS,hd2]
  | .two false a b,ho=>by
    have e:∀ Γ:Ga,Γ[2]?=some (.val (.lst [vRow Y a,vRow Y b]))->cpR2 (iZ (aCons (e2 ixD (eV 2) (eC (.int 0))) (aCons (e2 ixD (eV 2) (eC (.int 1))) aNil))) cTrue (eOr (eV 0) (eV 1)) Γ=.ok ((List.range Y.length).map λ w=>D.bl (sat Y (.two false a b) w)):=λ Γ h0 =>
      cp2_of (g1:=λ w=>D.bl (sat Y a w)) (g2:=λ w=>D.bl (sat Y b w)) (by simp [iZ,eV,h0,vRow,atI_zero,atI_one,zipD_of]) (by simp; omega) λ w hw=>by
        cases h:sat Y a w <;> simp [sat,h]
    rw [show vRow Y (.two false a b)=D.lst ((List.range Y.length).map λ w=>D.bl (sat Y (.two false a b) w)) from rfl]
    simp [-cpR_eq,M_q19,B_q19,begin_,e,partsS,hd2]
  | .way c k a,ho=>by
    simp only [okS,Bool.and_eq_true,decide_eq_true_iff] at ho
    have e:∀ Γ:Ga,Γ[0]?=some (.val (dYd Y))->Γ[1]?=some (.val (dS (.way true k a)))->Γ[2]?=some (.val (.lst [vRow Y a]))->cpR (iT (eV 0)) cTrue (eS allS (sE (eCall M_q17 (aCons (eV 0) (aCons (e2 ixD (eV 3) (eC (.int 1))) (aCons (e2 ixD (eV 4) (eC (.int 0))) aNil)))))) Γ=.ok ((List.range Y.length).map λ w=>D.bl (sat Y (.way true k a) w)):=λ Γ h0 h1 h2 =>
      cp_of (g:=λ w=>dWd (wdAt Y w)) (by rw [<- yd_range]; simp [eV,h0,dYd,asT]) (by simp; omega) λ w hw=>by
        have el:=m_led hY h5 (s:=a) (List.mem_range.mp hw) ho.1
        have ea:=allS_eq (bs:=(rowAt Y w k).map (sat Y a))
        rw [List.map_map] at ea
        have ea:allS (false,(rowAt Y w k).map λ v=>D.bl (sat Y a v))=_:=ea
        simp [eV,h1,h2,atI_zero,el,sat,seqOf,ea]
    have e':∀ Γ:Ga,Γ[0]?=some (.val (dYd Y))->Γ[1]?=some (.val (dS (.way false k a)))->Γ[2]?=some (.val (.lst [vRow Y a]))->cpR (iT (eV 0)) cTrue (eS anyS (sE (eCall M_q17 (aCons (eV 0) (aCons (e2 ixD (eV 3) (eC (.int 1))) (aCons (e2 ixD (eV 4) (eC (.int 0))) aNil)))))) Γ=.ok ((List.range Y.length).map λ w=>D.bl (sat Y (.way false k a) w)):=λ Γ h0 h1 h2 =>
      cp_of (g:=λ w=>dWd (wdAt Y w)) (by rw [<- yd_range]; simp [eV,h0,dYd,asT]) (by simp; omega) λ w hw=>by
        have el:=m_led hY h5 (s:=a) (List.mem_range.mp hw) ho.1
        have ea:=anyS_eq (bs:=(rowAt Y w k).map (sat Y a))
        rw [List.map_map] at ea
        have ea:anyS (false,(rowAt Y w k).map λ v=>D.bl (sat Y a v))=_:=ea
        simp [eV,h1,h2,atI_zero,el,sat,seqOf,ea]
    rw [show vRow Y (.way c k a)=D.lst ((List.range Y.length).map λ w=>D.bl (sat Y (.way c k a) w)) from rfl]
    cases c <;> simp [-cpR_eq,M_q19,B_q19,begin_,e,e',partsS,hdw]
theorem told_row:Told (λ s=>okS s=true) (ML_q18 M_q19 (dYd Y)) (vRow Y) where
  neg:=λ _ h=>h
  two:=λ c a b h=>by simpa [okS] using h
  way:=λ c k a h=>by simp [okS] at h; exact h.2
  at_:=λ s hs=>by
    have e:=m_row hY h5 s hs
    simp [ML_q18,beginL,e]
theorem m_q18 (s:Say) (ho:okS s=true) (hs:sizeS s<=100000):M_q18 [dYd Y,dS s]=.ok (vRow Y s):=by
  have e:MI_q18 M_q19 M_q16 M_q21 (dYd Y) [dS s]=.ok (vRow Y s):=m_q12 (told_row hY h5) s ho hs
  simp [M_q18,B_q18,begin_,eCallL,e]
omit hY h5 in
theorem m_mustP {w:Nat} (hw:w < Y.length):M_q8 [dYd Y,.int (w:Int)]=.ok .non:=by
  have h2:(w:Int) < (Y.length:Int):=by omega
  simp [M_q8,B_q8,M_q14,B_q14,M_q15,B_q15,begin_,gInt,gBool,h2]
theorem m_holdsP (s:Say) (ho:okS s=true) (hs:sizeS s<=100000) (w:Nat) (hw:w < Y.length):M_q20 [dYd Y,.int (w:Int),dS s]=.ok (.bl (sat Y s w)):=by
  have e:=m_q18 hY h5 s ho hs
  have er:=row_at (s:=s) hw
  have e2:=m_mustP (Y:=Y) hw
  simp [M_q20,B_q20,begin_,e,er,e2]
end
end Pg


namespace Wy
open PySem PySem.Spec PyProof.Rows L2
theorem hkL_cons {n:Nat} {d:D} {ds:List D}:hkL n (d::ds)=(hk n d&&hkL n ds):=by conv=>lhs; unfold hkL
theorem hk_tup {n:Nat} {ds:List D} (h:hk n (.tup ds)=true):∃ m,n=m + 1/\hkL m ds=true:=by
  cases n with
  | zero=>unfold hk at h; cases h
  | succ m=>unfold hk at h; exact ⟨m,rfl,h⟩
theorem hk_bl {n:Nat} {b:Bool} (h:hk n (.bl b)=true):False:=by cases n <;> (unfold hk at h; cases h)
theorem hk_lst {n:Nat} {ds:List D} (h:hk n (.lst ds)=true):False:=by cases n <;> (unfold hk at h; cases h)
theorem hDL_cons {w:World} {d:D} {ds:List D}:hDL w (d::ds)=hD w d::hDL w ds:=by conv=>lhs; unfold hDL
theorem hDL_append {w:World}:∀ (a b:List D),hDL w (a++b)=hDL w a++hDL w b
  | [],b=>by
    have e:hDL w []=[]:=by unfold hDL; rfl
    rw [e]; rfl
  | d::a,b=>by rw [List.cons_append,hDL_cons,hDL_cons,hDL_append a b]; rfl
theorem hash_non {prog:Program} {w:World} {A:Around} {E:Value->Shared->Prop} {s:Shared} {Q:Int->Shared->Prop} (h:∀ tk,Q 4238894112 { s with toks:=tk }):wpAny (model prog w) A (pyHash .none) Q E s:=by
  have ty:s.TypeIs .none "NoneType":=rfl
  unfold pyHash pyHashByItsType
  refine wpAny_bind (wpAny_cRoomFor_or (.inl rfl) (wpAny_bind (wpAny_specialOf ty F.slot_NoneType_hash.lookup ?_)))
  refine wpAny_ite_split (λ z=>absurd z (by rw [beq_builtin_none]; exact Bool.false_ne_true)) λ _=>?_
  refine wpAny_bind (wpAny_specialOf ty F.slot_NoneType_hash.lookup ?_)
  show wpAny _ _ (callSpecialIfBoundUnlessNone? .none "__hash__" _>>=_) Q E s
  refine wpAny_bind (wpAny_callSpecialIfBoundUnlessNone?_slot ty F.slot_NoneType_hash (wpAny_call_entry F.slot_NoneType_hash ty F.entry_NoneType_hash ?_ (F.args_NoneType_hash_1 _)))
  refine wpAny_ret_mkInt ?_
  exact wpAny_pure (h _)
section
variable {X:Cx} {pins:List (Addr×Obj)} {σ:L2.St} {H G:Hp}
theorem hash_D:∀ (n:Nat) (d:D) (v:V) (u:Value) (s:Shared) (A:Around) (E:Value->Shared->Prop) (Q:Int->Shared->Prop),Inv X pins σ H s->Same G H->hk n d=true->A.units + n < cLine->Den X.K G d v->RelV v u ->
    (∀ tk,Q (hD X.w d) { s with toks:=tk })->wpAny (model X.prog X.w) A (pyHash u) Q E s:=by
  intro n
  induction n with
  | zero =>
    intro d v u s A E Q I g hh hA hd r q
    cases d with
    | int i=>cases den_intE hd; obtain ⟨t,rfl⟩:=r; unfold hD at q; exact wpAny_pyHash_int (q _)
    | str x=>cases den_strE hd; obtain ⟨t,rfl⟩:=r; unfold hD at q; exact wpAny_pyHash_str (q _)
    | non=>cases den_nonE hd; obtain rfl:u=Value.none:=r; unfold hD at q; exact hash_non q
    | bl b=>exact (hk_bl hh).elim
    | lst ds=>exact (hk_lst hh).elim
    | tup ds=>obtain ⟨m,e,_⟩:=hk_tup hh; cases e
  | succ n ih =>
    intro d v u s A E Q I g hh hA hd r q
    cases d with
    | int i=>cases den_intE hd; obtain ⟨t,rfl⟩:=r; unfold hD at q; exact wpAny_pyHash_int (q _)
    | str x=>cases den_strE hd; obtain ⟨t,rfl⟩:=r; unfold hD at q; exact wpAny_pyHash_str (q _)
    | non=>cases den_nonE hd; obtain rfl:u=Value.none:=r; unfold hD at q; exact hash_non q
    | bl b=>exact (hk_bl hh).elim
    | lst ds=>exact (hk_lst hh).elim
    | tup ds =>
      obtain ⟨m,e,hds⟩:=hk_tup hh
      cases e
      obtain ⟨a,vs,rfl,sq,l⟩:=den_tup.mp hd
      obtain rfl:u=Value.ref a:=r
      obtain ⟨its,rv,⟨ob,ho,hc,c,hs⟩,_⟩:=I.tuple (Same.seqT g sq)
      have ty:s.TypeIs (.ref a) "tuple":=⟨ob,ho,hc⟩
      unfold pyHash pyHashByItsType
      refine wpAny_bind (wpAny_cRoomFor_or (.inr (by omega)) (wpAny_bind (wpAny_specialOf ty F.slot_tuple_hash.lookup ?_)))
      refine wpAny_ite_split (λ z=>absurd z (by rw [beq_builtin_none]; exact Bool.false_ne_true)) λ _=>?_
      refine wpAny_bind (wpAny_specialOf ty F.slot_tuple_hash.lookup ?_)
      show wpAny _ _ (callSpecialIfBoundUnlessNone? (.ref a) "__hash__" _>>=λ _=>_) Q E s
      refine wpAny_bind (wpAny_callSpecialIfBoundUnlessNone?_slot ty F.slot_tuple_hash (wpAny_call_entry F.slot_tuple_hash ty F.entry_tuple_hash ?_ (F.args_tuple_hash_1 _)))
      show wpAny _ A.in1 (Builtin.Tuple.tupleItemsOf (.ref a)>>=λ _=>_) _ _ s
      refine wpAny_bind (wpAny_tupleItemsOf ho hs (wpAny_bind ?_))
      rw [<- Array.forIn_toList]
      refine wpAny_forIn_list _ (λ rest (b:Array Int) s'=>∃ done left ws,ds=done++left/\hkL n left=true/\DenL X.K G left ws/\Vals ws rest/\b.toList=hDL X.w done/\∃ tk,s'={ s with toks:=tk }) _ ?_ ?_ _ _
        ⟨[],ds,vs,rfl,hds,l,by simpa using rv,by unfold hDL; rfl,s.toks,rfl⟩
      · rintro x rest b s' ⟨done,left,ws,rfl,hl,dl,vl,hb,tk,rfl⟩
        cases left with
        | nil=>rw [denL_nil.mp dl] at vl; cases vl
        | cons d left =>
          obtain ⟨v',r',rfl,d1,d2⟩:=denL_cons.mp dl
          cases vl with
          | cons rx vr =>
            rw [hkL_cons,Bool.and_eq_true] at hl
            refine wpAny_bind (ih d v' x _ A.in1 _ _ (I.tok tk) g hl.1 (by show A.units + 1 + n < cLine; omega) d1 rx λ tk'=>?_)
            exact wpAny_pure ⟨done++[d],left,r',by simp,hl.2,d2,vr,by rw [hDL_append,<- hb]; simp [hDL],tk',rfl⟩
      · rintro b s' ⟨done,left,ws,rfl,hl,dl,vl,hb,tk,rfl⟩
        cases vl
        have e0:left=[]:=by
          cases left with
          | nil=>rfl
          | cons d left=>obtain ⟨v',r',z,_⟩:=denL_cons.mp dl; cases z
        subst e0
        rw [List.append_nil] at q
        unfold hD reduceHash at q
        show wpAny _ _ (retInt (Builtin.Tuple.tupleHashOf b.toList)) _ _ _
        rw [hb]
        refine wpAny_ret_mkInt ?_
        show wpAny _ _ (if (decide (-(2:Int) ^ 63<=Builtin.Tuple.tupleHashOf (hDL X.w done))&&decide (Builtin.Tuple.tupleHashOf (hDL X.w done) < 2 ^ 63))=true then _ else _) Q E _
        split
        · rename_i z
          rw [if_pos z] at q
          exact wpAny_pure (q _)
        · rename_i z
          rw [if_neg z] at q
          exact wpAny_bind (wpAny_rule (wpAny_pure (q _)))
theorem quiet_D:∀ (n:Nat) (d:D) (v:V) (u:Value) (s:Shared) (A:Around) (E:Value->Shared->Prop) (Q:Bool->Shared->Prop),Inv X pins σ H s->Same G H->hk n d=true->Den X.K G d v->RelV v u ->
    Q true s->wpAny (model X.prog X.w) A (eqIsQuiet n u) Q E s:=by
  have flat:∀ (n:Nat) (u:Value) (s:Shared) (A:Around) (E:Value->Shared->Prop) (Q:Bool->Shared->Prop),carriedByValue u=true->Q true s->wpAny (model X.prog X.w) A (eqIsQuiet n u) Q E s:=λ n u s A E Q hu q=>by
    rw [eqIsQuiet_byValue n hu]; exact wpAny_pure q
  intro n
  induction n with
  | zero =>
    intro d v u s A E Q I g hh hd r q
    cases d with
    | int i=>cases den_intE hd; obtain ⟨t,rfl⟩:=r; exact flat _ _ _ _ _ _ rfl q
    | str x=>cases den_strE hd; obtain ⟨t,rfl⟩:=r; exact flat _ _ _ _ _ _ rfl q
    | non=>cases den_nonE hd; obtain rfl:u=Value.none:=r; exact flat _ _ _ _ _ _ rfl q
    | bl b=>exact (hk_bl hh).elim
    | lst ds=>exact (hk_lst hh).elim
    | tup ds=>obtain ⟨m,e,_⟩:=hk_tup hh; cases e
  | succ n ih =>
    intro d v u s A E Q I g hh hd r q
    cases d with
    | int i=>cases den_intE hd; obtain ⟨t,rfl⟩:=r; exact flat _ _ _ _ _ _ rfl q
    | str x=>cases den_strE hd; obtain ⟨t,rfl⟩:=r; exact flat _ _ _ _ _ _ rfl q
    | non=>cases den_nonE hd; obtain rfl:u=Value.none:=r; exact flat _ _ _ _ _ _ rfl q
    | bl b=>exact (hk_bl hh).elim
    | lst ds=>exact (hk_lst hh).elim
    | tup ds =>
      obtain ⟨m,e,hds⟩:=hk_tup hh
      cases e
      obtain ⟨a,vs,rfl,sq,l⟩:=den_tup.mp hd
      obtain rfl:u=Value.ref a:=r
      obtain ⟨its,rv,⟨ob,ho,hc,c,hs⟩,_⟩:=I.tuple (Same.seqT g sq)
      have ty:s.TypeIs (.ref a) "tuple":=⟨ob,ho,hc⟩
      unfold eqIsQuiet
      refine wpAny_bind (wpAny_specialOf ty F.slot_tuple_eq.lookup ?_)
      show wpAny _ _ (isInstance (.ref a) (.type "tuple")>>=λ _=>_) _ _ s
      refine wpAny_bind (wpAny_isInstance ty isSubtype_tuple_tuple ?_)
      refine wpAny_ite_split (λ z=>absurd z (by decide)) λ _=>?_
      refine wpAny_bind (wpAny_seqItems ho hs (wpAny_bind ?_))
      show wpAny _ _ (forIn its.toArray _ _) _ _ s
      rw [<- Array.forIn_toList]
      refine wpAny_forIn_list _ (λ rest b s'=>b.1=none/\s'=s/\∃ left ws,hkL n left=true/\DenL X.K G left ws/\Vals ws rest) _ ?_ ?_ _ _ ⟨rfl,rfl,ds,vs,hds,l,by simpa using rv⟩
      · rintro x rest b s' ⟨hb,rfl,left,ws,hl,dl,vl⟩
        cases left with
        | nil=>rw [denL_nil.mp dl] at vl; cases vl
        | cons d left =>
          obtain ⟨v',r',rfl,d1,d2⟩:=denL_cons.mp dl
          cases vl with
          | cons rx vr =>
            rw [hkL_cons,Bool.and_eq_true] at hl
            refine wpAny_bind (ih d v' x _ A _ _ I g hl.1 d1 rx ?_)
            exact wpAny_ite_split (λ z=>absurd z (by decide)) λ _=>wpAny_pure ⟨rfl,rfl,left,r',hl.2,d2,vr⟩
      · rintro ⟨b1,b2⟩ s' ⟨hb,rfl,_⟩
        cases hb
        exact wpAny_pure q
end
end Wy


namespace Wy
open PySem PySem.Spec PyProof.Rows L2
mutual
theorem hk_eq:(n m:Nat)->(a b:D)->hk n a=true->hk m b=true->eqDD a b=true->a=b
  | n,m,.non,b,_,hb,e=>by cases b <;> (unfold eqDD at e; first | rfl | cases e)
  | n,m,.bl x,b,ha,_,_=>(hk_bl ha).elim
  | n,m,.int x,b,_,hb,e=>by
    cases b with
    | int y=>unfold eqDD at e; rw [eq_of_beq e]
    | bl y=>exact (hk_bl hb).elim
    | _=>unfold eqDD at e; cases e
  | n,m,.str x,b,_,_,e=>by
    cases b with
    | str y=>unfold eqDD at e; rw [eq_of_beq e]
    | _=>unfold eqDD at e; cases e
  | n,m,.tup xs,b,ha,hb,e=>by
    cases b with
    | tup ys =>
      obtain ⟨n',_,ha⟩:=hk_tup ha
      obtain ⟨m',_,hb⟩:=hk_tup hb
      unfold eqDD at e
      rw [hkL_eq n' m' xs ys ha hb e]
    | _=>unfold eqDD at e; cases e
  | n,m,.lst xs,b,ha,_,_=>(hk_lst ha).elim
theorem hkL_eq:(n m:Nat)->(a b:List D)->hkL n a=true->hkL m b=true->eqDL a b=true->a=b
  | n,m,[],[],_,_,_=>rfl
  | n,m,[],y::ys,_,_,e=>by unfold eqDL at e; cases e
  | n,m,x::xs,[],_,_,e=>by unfold eqDL at e; cases e
  | n,m,x::xs,y::ys,ha,hb,e=>by
    rw [hkL_cons,Bool.and_eq_true] at ha hb
    unfold eqDL at e
    rw [Bool.and_eq_true] at e
    rw [hk_eq n m x y ha.1 hb.1 e.1,hkL_eq n m xs ys ha.2 hb.2 e.2]
end
mutual
theorem hk_dep:(n:Nat)->(d:D)->hk n d=true->depD d<=n
  | n,.non,_=>by unfold depD; exact Nat.zero_le _
  | n,.bl _,h=>(hk_bl h).elim
  | n,.int _,_=>by unfold depD; exact Nat.zero_le _
  | n,.str _,_=>by unfold depD; exact Nat.zero_le _
  | n,.lst _,h=>(hk_lst h).elim
  | n,.tup ds,h=>by
    obtain ⟨m,rfl,h⟩:=hk_tup h
    unfold depD
    exact Nat.succ_le_succ (hkL_dep m ds h)
theorem hkL_dep:(n:Nat)->(ds:List D)->hkL n ds=true->depDL ds<=n
  | n,[],_=>by unfold depDL; exact Nat.zero_le _
  | n,d::ds,h=>by
    rw [hkL_cons,Bool.and_eq_true] at h
    unfold depDL
    exact Nat.max_le.mpr ⟨hk_dep n d h.1,hkL_dep n ds h.2⟩
end
noncomputable def kIx (k:D) (kvs:List (D×D)):Option Nat:=kvs.findIdx? λ p=>eqDD p.1 k
theorem ents_len {w:World}:∀ {kvs:List (D×D)} {es:List (V×V)} {xs:List DictEntry},EntsOk w kvs es xs->kvs.length=xs.length/\es.length=xs.length
  | [],[],[],_=>⟨rfl,rfl⟩
  | _::_,_::_,_::_,h=>by
    have:=ents_len h.2
    simp [this.1,this.2]
  | [],[],_::_,h=>h.elim
  | [],_::_,[],h=>h.elim
  | [],_::_,_::_,h=>h.elim
  | _::_,[],_,h=>h.elim
  | _::_,_::_,[],h=>h.elim
theorem ents_get {w:World} {K:PySem.W.Frag} {G:Hp}:∀ {kvs:List (D×D)} {es:List (V×V)} {xs:List DictEntry},EntsOk w kvs es xs->DenK K G kvs es->∀ (i:Nat) (e:DictEntry),xs[i]?=some e ->
    ∃ p q,kvs[i]?=some p/\es[i]?=some q/\(e.hash=hD w p.1/\RelV q.1 e.key/\RelV q.2 e.val)/\Den K G p.1 q.1/\Den K G p.2 q.2
  | p::ps,q::qs,x::xs,h,d,0,e,he=>by
    cases he
    exact ⟨p,q,rfl,rfl,h.1,d.1⟩
  | p::ps,q::qs,x::xs,h,d,i + 1,e,he=>by
    obtain ⟨p',q',h1,h2,h3⟩:=ents_get h.2 d.2 i e (by simpa using he)
    exact ⟨p',q',by simpa using h1,by simpa using h2,h3⟩
  | [],[],[],_,_,i,e,he=>by simp at he
  | [],[],_::_,h,_,_,_,_=>h.elim
  | [],_::_,[],h,_,_,_,_=>h.elim
  | [],_::_,_::_,h,_,_,_,_=>h.elim
  | _::_,[],_,h,_,_,_,_=>h.elim
  | _::_,_::_,[],h,_,_,_,_=>h.elim
section
variable {X:Cx} {pins:List (Addr×Obj)} {σ:L2.St} {H G:Hp} {s:Shared} {A:Around} {E:Value->Shared->Prop}
structure Seek (X:Cx) (G:Hp) (s:Shared) (A:Around) (d:Addr) (o:Obj) (xs:Array DictEntry) (ep:Nat) (kvs:List (D×D)) (es:List (V×V)) (k:D) (u:Value):Prop where
  ho:s.heap.get? d=some o
  hd:o.data=.dict xs ep
  en:EntsOk X.w kvs es xs.toList
  dk:DenK X.K G kvs es
  ko:KOk kvs
  hkk:hk 8 k=true
  hu:A.units + 20 < cLine
  eq:∀ (i:Nat) (e:DictEntry) (p:D×D),xs[i]?=some e->kvs[i]?=some p->∀ (E:Value->Shared->Prop) (Q:Bool->Shared->Prop),Q (eqDD p.1 k) s->wpAny (model X.prog X.w) A (eqBool e.key u) Q E s
  qk:∀ (E:Value->Shared->Prop) (Q:Bool->Shared->Prop),Q true s->wpAny (model X.prog X.w) A (eqIsQuiet 8 u) Q E s
  qe:∀ (i:Nat) (e:DictEntry),xs[i]?=some e->∀ (E:Value->Shared->Prop) (Q:Bool->Shared->Prop),Q true s->wpAny (model X.prog X.w) A (eqIsQuiet 8 e.key) Q E s
  same:∀ (i:Nat) (e:DictEntry) (p:D×D),xs[i]?=some e->kvs[i]?=some p->e.key=u->p.1=k
  st:∀ x t,u=.str x t->∀ (i:Nat) (e:DictEntry) (p:D×D),xs[i]?=some e->kvs[i]?=some p->e.key.isStr x=eqDD p.1 k
variable {d:Addr} {o:Obj} {xs:Array DictEntry} {ep:Nat} {kvs:List (D×D)} {es:List (V×V)} {k:D} {u:Value}
theorem Seek.mk' (I:Inv X pins σ H s) (g:Same G H) {v:V} (ho:s.heap.get? d=some o) (hd:o.data=.dict xs ep) (en:EntsOk X.w kvs es xs.toList) (dk:DenK X.K G kvs es) (ko:KOk kvs) (hkk:hk 8 k=true) (hu:A.units + 20 < cLine)
    (dv:Den X.K G k v) (rv:RelV v u):Seek X G s A d o xs ep kvs es k u where
  ho:=ho
  hd:=hd
  en:=en
  dk:=dk
  ko:=ko
  hkk:=hkk
  hu:=hu
  eq:=λ i e p he hp E Q q=>by
    obtain ⟨p',q',h1,h2,⟨h3,h4,h5⟩,h6,h7⟩:=ents_get en dk i e (by simpa using he)
    rw [hp] at h1; cases h1
    exact (eqAt_D I g 8 p.1 k _ _ _ _ A (hk_dep _ _ (ko.2 p (List.mem_of_getElem? hp))) (by omega) h6 dv h4 rv).1 X.prog X.w E Q q
  qk:=λ E Q q=>quiet_D 8 k v u s A E Q I g hkk dv rv q
  qe:=λ i e he E Q q=>by
    obtain ⟨p',q',h1,h2,⟨h3,h4,h5⟩,h6,h7⟩:=ents_get en dk i e (by simpa using he)
    exact quiet_D 8 p'.1 _ e.key s A E Q I g (ko.2 p' (List.mem_of_getElem? h1)) h6 h4 q
  same:=λ i e p he hp z=>by
    obtain ⟨p',q',h1,h2,⟨h3,h4,h5⟩,h6,h7⟩:=ents_get en dk i e (by simpa using he)
    rw [hp] at h1; cases h1
    have:q'.1=v:=RelV.inj (z ▸ h4) rv
    exact den_inj I g _ _ _ (this ▸ h6) dv
  st:=λ x t hx i e p he hp=>by
    obtain ⟨p',q',h1,h2,⟨h3,h4,h5⟩,h6,h7⟩:=ents_get en dk i e (by simpa using he)
    rw [hp] at h1; cases h1
    subst hx
    have ek:k=.str x:=by
      cases k with
      | str y=>cases den_strE dv; obtain ⟨t',z⟩:=rv; cases z; rfl
      | non=>cases den_nonE dv; exact nomatch (show Value.str x t=Value.none from rv)
      | bl b=>cases den_blE dv; exact nomatch (show Value.str x t=Value.bool b from rv)
      | int b=>cases den_intE dv; obtain ⟨t',z⟩:=rv; cases z
      | tup b=>obtain ⟨a,vs,rfl,_⟩:=den_tup.mp dv; exact nomatch (show Value.str x t=Value.ref a from rv)
      | lst b=>obtain ⟨a,vs,rfl,_⟩:=den_lst.mp dv; exact nomatch (show Value.str x t=Value.ref a from rv)
    subst ek
    generalize e.key=ke at h4 ⊢
    generalize p.1=d1 at h6 ⊢
    generalize q'.1=v1 at h4 h6
    cases d1 with
    | str y=>cases den_strE h6; obtain ⟨t',rfl⟩:=h4; unfold eqDD; rfl
    | non=>cases den_nonE h6; obtain rfl:ke=Value.none:=h4; unfold eqDD; rfl
    | bl b=>cases den_blE h6; obtain rfl:ke=Value.bool b:=h4; unfold eqDD; rfl
    | int b=>cases den_intE h6; obtain ⟨t',rfl⟩:=h4; unfold eqDD; rfl
    | tup b=>obtain ⟨a,vs,e1,_⟩:=den_tup.mp h6; rw [e1] at h4; obtain rfl:ke=Value.ref a:=h4; unfold eqDD; rfl
    | lst b=>obtain ⟨a,vs,e1,_⟩:=den_lst.mp h6; rw [e1] at h4; obtain rfl:ke=Value.ref a:=h4; unfold eqDD; rfl
section
variable (S:Seek X G s A d o xs ep kvs es k u)
include S
theorem Seek.at {i:Nat} (h:i < xs.size):∃ e p,xs[i]?=some e/\kvs[i]?=some p/\e.hash=hD X.w p.1/\hk 8 p.1=true:=by
  have he:xs.toList[i]?=some xs[i]:=by rw [Array.getElem?_toList,Array.getElem?_eq_getElem h]
  obtain ⟨p,q,h1,h2,h3,h4⟩:=ents_get S.en S.dk i _ he
  exact ⟨xs[i],p,Array.getElem?_eq_getElem h,h1,h3.1,S.ko.2 p (List.mem_of_getElem? h1)⟩
theorem Seek.uniq {i j:Nat} {p q:D×D} (hi:kvs[i]?=some p) (hj:kvs[j]?=some q) (ei:eqDD p.1 k=true) (ej:eqDD q.1 k=true):i=j:=by
  have a:=hk_eq 8 8 _ _ (S.ko.2 p (List.mem_of_getElem? hi)) S.hkk ei
  have b:=hk_eq 8 8 _ _ (S.ko.2 q (List.mem_of_getElem? hj)) S.hkk ej
  have hi':(kvs.map (·.1))[i]?=some k:=by rw [List.getElem?_map,hi]; simp [a]
  have hj':(kvs.map (·.1))[j]?=some k:=by rw [List.getElem?_map,hj]; simp [b]
  exact (List.getElem?_inj (List.getElem?_eq_some_iff.mp hi').1 S.ko.1).mp (hi'.trans hj'.symm)
theorem Seek.hit {i:Nat} {p:D×D} (hi:kvs[i]?=some p) (ei:eqDD p.1 k=true):kIx k kvs=some i:=by
  unfold kIx
  refine List.findIdx?_eq_some_iff_getElem.mpr ⟨(List.getElem?_eq_some_iff.mp hi).1,by rw [(List.getElem?_eq_some_iff.mp hi).2]; exact ei,λ j hj=>?_⟩
  have hjl:j < kvs.length:=Nat.lt_trans hj (List.getElem?_eq_some_iff.mp hi).1
  intro z
  exact absurd (S.uniq (List.getElem?_eq_getElem hjl) hi z ei) (by omega)
theorem Seek.places (i:Nat):i∈placesWithHash xs.size (λ i=>xs[i]?.map (·.hash)) (hD X.w k)↔∃ e,xs[i]?=some e/\e.hash=hD X.w k:=by
  unfold placesWithHash
  rw [List.mem_filter,List.mem_range]
  constructor
  · rintro ⟨h1,h2⟩
    refine ⟨xs[i],Array.getElem?_eq_getElem h1,?_⟩
    dsimp only at h2
    rw [Array.getElem?_eq_getElem h1] at h2
    simpa using h2
  · rintro ⟨e,h1,h2⟩
    refine ⟨(Array.getElem?_eq_some_iff.mp h1).1,?_⟩
    dsimp only
    rw [h1]
    simp [h2]
theorem Seek.miss (h:∀ i∈placesWithHash xs.size (λ i=>xs[i]?.map (·.hash)) (hD X.w k),∀ p,kvs[i]?=some p->eqDD p.1 k=false):kIx k kvs=none:=by
  unfold kIx
  refine List.findIdx?_eq_none_iff.mpr λ p hp=>?_
  obtain ⟨i,hi⟩:=List.mem_iff_getElem?.mp hp
  cases z:eqDD p.1 k with
  | false=>rfl
  | true =>
    have hl:i < xs.size:=by
      have q1:=(ents_len S.en).1
      have q2:=(List.getElem?_eq_some_iff.mp hi).1
      simp only [Array.length_toList] at q1
      omega
    obtain ⟨e,p',h1,h2,h3,_⟩:=S.at hl
    rw [hi] at h2; cases h2
    have a:=hk_eq 8 8 _ _ (S.ko.2 p (List.mem_of_getElem? hi)) S.hkk z
    rw [h i ((S.places i).mpr ⟨e,h1,by rw [h3,a]⟩) p hi] at z
    cases z
theorem Seek.tells {Q:Bool->Shared->Prop} (q:Q false s) :
    wpAny (model X.prog X.w) A (tableMayTell u ((placesWithHash xs.size (λ i=>xs[i]?.map (·.hash)) (hD X.w k)).filterMap λ i=>xs[i]?.map (·.key))) Q E s:=by
  unfold tableMayTell
  split
  · exact wpAny_pure q
  · refine wpAny_bind (S.qk _ _ ?_)
    refine wpAny_ite_split (λ z=>absurd z (by decide)) λ _=>wpAny_bind ?_
    refine wpAny_forIn_list _ (λ rest b s'=>b=(none,())/\s'=s/\∀ v∈rest,∃ (i:Nat) (e:DictEntry),xs[i]?=some e/\v=e.key) _ ?_ ?_ _ _ ⟨rfl,rfl,λ v hv=>?_⟩
    · rintro x rest b s' ⟨rfl,rfl,h⟩
      obtain ⟨i,e,h1,rfl⟩:=h x List.mem_cons_self
      refine wpAny_bind (S.qe i e h1 _ _ ?_)
      exact wpAny_ite_split (λ z=>absurd z (by decide)) λ _=>wpAny_pure ⟨rfl,rfl,λ v hv=>h v (List.mem_cons_of_mem _ hv)⟩
    · rintro b s' ⟨rfl,rfl,_⟩
      exact wpAny_pure q
    · obtain ⟨i,_,hi⟩:=List.mem_filterMap.mp hv
      cases z:xs[i]? with
      | none=>rw [z] at hi; cases hi
      | some e=>rw [z] at hi; exact ⟨i,e,z,by simpa using hi.symm⟩
theorem Seek.plain {Q:Option Nat->Shared->Prop} (q:Q (kIx k kvs) s):wpAny (model X.prog X.w) A (dictWalkPlain d u (hD X.w k) xs (placesWithHash xs.size (λ i=>xs[i]?.map (·.hash)) (hD X.w k))) Q E s:=by
  unfold dictWalkPlain
  refine wpAny_bind ?_
  refine wpAny_forIn_list _ (λ rest b s'=>b=(none,())/\s'=s/\∃ done,placesWithHash xs.size (λ i=>xs[i]?.map (·.hash)) (hD X.w k)=done++rest/\∀ i∈done,∀ p,kvs[i]?=some p->eqDD p.1 k=false) _ ?_ ?_ _ _
    ⟨rfl,rfl,[],rfl,λ i hi=>nomatch hi⟩
  · rintro x rest b s' ⟨rfl,rfl,done,hl,hno⟩
    obtain ⟨e,he,hh⟩:=(S.places x).mp (by rw [hl]; simp)
    obtain ⟨e',p,h1,h2,h3,h4⟩:=S.at (Array.getElem?_eq_some_iff.mp he).1
    rw [he] at h1; cases h1
    rw [he]
    dsimp only
    rw [if_pos (by rw [hh]; simp)]
    refine wpAny_bind (wpAny_dictEpoch S.ho S.hd (wpAny_bind (S.eq x e p he h2 _ _ (wpAny_bind (wpAny_dictEpoch S.ho S.hd ?_)))))
    refine wpAny_ite_split (λ z=>absurd z (by simp)) λ _=>?_
    cases z:eqDD p.1 k with
    | true =>
      refine wpAny_ite_split (λ _=>wpAny_bind (wpAny_rule (wpAny_pure (wpAny_pure ?_)))) λ z=>absurd rfl z
      rw [S.hit h2 z] at q
      exact q
    | false =>
      refine wpAny_ite_split (λ z=>nomatch z) λ _=>wpAny_bind (wpAny_rule (wpAny_pure ⟨rfl,rfl,done++[x],by simp [hl],λ i hi p' hp'=>?_⟩))
      rcases List.mem_append.mp hi with hi | hi
      · exact hno i hi p' hp'
      · rw [List.mem_singleton.mp hi,h2] at hp'; cases hp'; exact z
  · rintro b s' ⟨rfl,rfl,done,hl,hno⟩
    refine wpAny_pure ?_
    rw [S.miss (by rw [hl]; simpa using hno)] at q
    exact q
end
end
end Wy


namespace Wy
open PySem PySem.Spec PyProof.Rows L2
section
variable {X:Cx} {pins:List (Addr×Obj)} {σ:L2.St} {H G:Hp} {s:Shared} {A:Around} {E:Value->Shared->Prop}
variable {d:Addr} {o:Obj} {xs:Array DictEntry} {ep:Nat} {kvs:List (D×D)} {es:List (V×V)} {k:D} {u:Value}
theorem Seek.find (S:Seek X G s A d o xs ep kvs es k u) {Q:Option Nat->Shared->Prop} (q:Q (kIx k kvs) s):wpAny (model X.prog X.w) A (dictFind d u (hD X.w k)) Q E s:=by
  have hnd:(placesWithHash xs.size (λ i=>xs[i]?.map (·.hash)) (hD X.w k)).Nodup:=by unfold placesWithHash; exact List.Nodup.sublist List.filter_sublist List.nodup_range
  unfold dictFind
  refine wpAny_holding (wpAny_bind (wpAny_dictEntries S.ho S.hd ?_))
  have val:∀ {u:Value},Seek X G s A d o xs ep kvs es k u->carriedByValue u=true->True:=λ _ _=>trivial
  cases u with
  | ref a =>
    dsimp only
    rw [if_neg (show ¬ ((Value.ref a::(placesWithHash xs.size (λ i=>xs[i]?.map (·.hash)) (hD X.w k)).filterMap (λ i=>xs[i]?.map (·.key))).all carriedByValue)=true by simp [carriedByValue])]
    refine wpAny_ite_split (λ z=>?_) λ _=>?_
    · exfalso
      rw [<- Array.any_toList,List.any_eq_true] at z
      obtain ⟨e,he,hc⟩:=z
      obtain ⟨i,hi⟩:=List.mem_iff_getElem?.mp he
      rw [Array.getElem?_toList] at hi
      obtain ⟨e',p,h1,h2,h3,h4⟩:=S.at (Array.getElem?_eq_some_iff.mp hi).1
      rw [hi] at h1; cases h1
      simp only [Bool.and_eq_true,beq_iff_eq,bne_iff_ne,ne_eq] at hc
      exact hc.2 (by rw [h3,S.same i e p hi h2 hc.1])
    · refine wpAny_ite_split (λ _=>wpAny_bind (wpAny_pure ?_)) λ _=>wpAny_bind (S.tells ?_)
      all_goals
        refine wpAny_ite_split (λ z=>absurd z (by simp)) λ _=>wpAny_bind ?_
        refine wpAny_forIn_list _ (λ rest b s'=>b.1=none/\s'=s/\∃ done,placesWithHash xs.size (λ i=>xs[i]?.map (·.hash)) (hD X.w k)=done++rest/\((b.2=none/\∀ i∈done,∀ p,kvs[i]?=some p->eqDD p.1 k=false)∨∃ j p,b.2=some j/\j∈done/\kvs[j]?=some p/\eqDD p.1 k=true)) _ ?_ ?_ _ _ ⟨rfl,rfl,[],rfl,.inl ⟨rfl,λ i hi=>nomatch hi⟩⟩
        · rintro x rest ⟨b1,b2⟩ s' ⟨hb,rfl,done,hl,hh⟩
          cases hb
          obtain ⟨e,he,hhx⟩:=(S.places x).mp (by rw [hl]; simp)
          obtain ⟨e',p,h1,h2,h3,h4⟩:=S.at (Array.getElem?_eq_some_iff.mp he).1
          rw [he] at h1; cases h1
          rw [he]
          dsimp only
          rw [if_pos (by rw [hhx]; simp)]
          refine wpAny_bind (wpAny_dictEpoch S.ho S.hd (wpAny_bind (S.eq x e p he h2 _ _ (wpAny_bind (wpAny_dictEpoch S.ho S.hd ?_)))))
          refine wpAny_ite_split (λ z=>absurd z (by simp)) λ _=>?_
          cases z:eqDD p.1 k with
          | true =>
            refine wpAny_ite_split (λ _=>?_) λ z=>absurd rfl z
            rcases hh with ⟨hb2,hno⟩ | ⟨j,pj,hb2,hj,hkj,ej⟩
            · cases hb2
              refine wpAny_ite_split (λ z=>absurd z (by simp)) λ _=>wpAny_bind (wpAny_rule ?_)
              refine wpAny_ite_split (λ _=>wpAny_pure (wpAny_pure ?_)) λ _=>wpAny_pure ⟨rfl,rfl,done++[x],by simp [hl],.inr ⟨x,p,rfl,by simp,h2,z⟩⟩
              rw [S.hit h2 z] at q
              exact q
            · exfalso
              have ejx:=S.uniq hkj h2 ej z
              subst ejx
              rw [hl,List.nodup_append] at hnd
              exact hnd.2.2 j hj j List.mem_cons_self rfl
          | false =>
            refine wpAny_ite_split (λ z=>nomatch z) λ _=>wpAny_bind (wpAny_rule ?_)
            refine wpAny_ite_split (λ z=>absurd z (by simp)) λ _=>wpAny_pure ⟨rfl,rfl,done++[x],by simp [hl],?_⟩
            rcases hh with ⟨hb2,hno⟩ | ⟨j,pj,hb2,hj,hkj,ej⟩
            · refine .inl ⟨hb2,λ i hi p' hp'=>?_⟩
              rcases List.mem_append.mp hi with hi | hi
              · exact hno i hi p' hp'
              · rw [List.mem_singleton.mp hi,h2] at hp'; cases hp'; exact z
            · exact .inr ⟨j,pj,hb2,List.mem_append_left _ hj,hkj,ej⟩
        · rintro ⟨b1,b2⟩ s' ⟨hb,rfl,done,hl,hh⟩
          cases hb
          rcases hh with ⟨hb2,hno⟩ | ⟨j,pj,hb2,hj,hkj,ej⟩
          · cases hb2
            refine wpAny_pure ?_
            rw [S.miss (by rw [hl]; simpa using hno)] at q
            exact q
          · cases hb2
            refine wpAny_pure ?_
            rw [S.hit hkj ej] at q
            exact q
  | str x t =>
    dsimp only
    refine wpAny_ite_split (λ z=>?_) λ _=>?_
    · unfold foundByValue
      have at_:∀ (i:Nat) (h:i < xs.size),∃ p,kvs[i]?=some p/\xs[i].key.isStr x=eqDD p.1 k:=λ i h=>by
        obtain ⟨e,p,h1,h2,h3,h4⟩:=S.at h
        rw [Array.getElem?_eq_getElem h] at h1; cases h1
        exact ⟨p,h2,S.st x t rfl i _ p (Array.getElem?_eq_getElem h) h2⟩
      have hlen:kvs.length=xs.size:=by have:=(ents_len S.en).1; simpa using this
      cases hx:kIx k kvs with
      | none =>
        have hf:xs.findIdx? (λ e=>e.key.isStr x)=none:=Array.findIdx?_eq_none_iff.mpr λ e he=>by
          obtain ⟨i,hi,rfl⟩:=Array.mem_iff_getElem.mp he
          obtain ⟨p,hp,e2⟩:=at_ i hi
          rw [e2]
          unfold kIx at hx
          exact List.findIdx?_eq_none_iff.mp hx p (List.mem_of_getElem? hp)
        rw [hf]
        rw [hx] at q
        exact wpAny_pure q
      | some j =>
        obtain ⟨hj,ej,hno⟩:=List.findIdx?_eq_some_iff_getElem.mp (show kvs.findIdx? (λ p=>eqDD p.1 k)=some j from hx)
        have hjx:j < xs.size:=by omega
        have hf:xs.findIdx? (λ e=>e.key.isStr x)=some j:=Array.findIdx?_eq_some_iff_getElem.mpr ⟨hjx,by
            obtain ⟨p,hp,e2⟩:=at_ j hjx
            rw [List.getElem?_eq_getElem hj] at hp; cases hp
            rw [e2]; exact ej,λ i hi=>by
            obtain ⟨p,hp,e2⟩:=at_ i (by omega)
            have:=hno i hi
            rw [List.getElem?_eq_getElem (by omega)] at hp; cases hp
            rw [e2]; exact this⟩
        rw [hf]
        rw [hx] at q
        dsimp only
        rw [Array.getElem?_eq_getElem hjx]
        dsimp only
        refine wpAny_bind (wpAny_dictEpoch S.ho S.hd (wpAny_bind (S.eq j _ _ (Array.getElem?_eq_getElem hjx) (List.getElem?_eq_getElem hj) _ _ (wpAny_bind (wpAny_dictEpoch S.ho S.hd ?_)))))
        refine wpAny_ite_split (λ z=>absurd z (by simp)) λ _=>?_
        rw [ej]
        exact wpAny_ite_split (λ _=>wpAny_bind (wpAny_rule (wpAny_pure q))) λ z=>absurd rfl z
    · refine wpAny_ite_split (λ _=>S.plain q) λ _=>?_
      refine wpAny_ite_split (λ _=>wpAny_bind (wpAny_pure ?_)) λ _=>wpAny_bind (S.tells ?_)
      all_goals
        refine wpAny_ite_split (λ z=>absurd z (by simp)) λ _=>wpAny_bind ?_
        refine wpAny_forIn_list _ (λ rest b s'=>b.1=none/\s'=s/\∃ done,placesWithHash xs.size (λ i=>xs[i]?.map (·.hash)) (hD X.w k)=done++rest/\((b.2=none/\∀ i∈done,∀ p,kvs[i]?=some p->eqDD p.1 k=false)∨∃ j p,b.2=some j/\j∈done/\kvs[j]?=some p/\eqDD p.1 k=true)) _ ?_ ?_ _ _ ⟨rfl,rfl,[],rfl,.inl ⟨rfl,λ i hi=>nomatch hi⟩⟩
        · rintro x rest ⟨b1,b2⟩ s' ⟨hb,rfl,done,hl,hh⟩
          cases hb
          obtain ⟨e,he,hhx⟩:=(S.places x).mp (by rw [hl]; simp)
          obtain ⟨e',p,h1,h2,h3,h4⟩:=S.at (Array.getElem?_eq_some_iff.mp he).1
          rw [he] at h1; cases h1
          rw [he]
          dsimp only
          rw [if_pos (by rw [hhx]; simp)]
          refine wpAny_bind (wpAny_dictEpoch S.ho S.hd (wpAny_bind (S.eq x e p he h2 _ _ (wpAny_bind (wpAny_dictEpoch S.ho S.hd ?_)))))
          refine wpAny_ite_split (λ z=>absurd z (by simp)) λ _=>?_
          cases z:eqDD p.1 k with
          | true =>
            refine wpAny_ite_split (λ _=>?_) λ z=>absurd rfl z
            rcases hh with ⟨hb2,hno⟩ | ⟨j,pj,hb2,hj,hkj,ej⟩
            · cases hb2
              refine wpAny_ite_split (λ z=>absurd z (by simp)) λ _=>wpAny_bind (wpAny_rule ?_)
              refine wpAny_ite_split (λ _=>wpAny_pure (wpAny_pure ?_)) λ _=>wpAny_pure ⟨rfl,rfl,done++[x],by simp [hl],.inr ⟨x,p,rfl,by simp,h2,z⟩⟩
              rw [S.hit h2 z] at q
              exact q
            · exfalso
              have ejx:=S.uniq hkj h2 ej z
              subst ejx
              rw [hl,List.nodup_append] at hnd
              exact hnd.2.2 j hj j List.mem_cons_self rfl
          | false =>
            refine wpAny_ite_split (λ z=>nomatch z) λ _=>wpAny_bind (wpAny_rule ?_)
            refine wpAny_ite_split (λ z=>absurd z (by simp)) λ _=>wpAny_pure ⟨rfl,rfl,done++[x],by simp [hl],?_⟩
            rcases hh with ⟨hb2,hno⟩ | ⟨j,pj,hb2,hj,hkj,ej⟩
            · refine .inl ⟨hb2,λ i hi p' hp'=>?_⟩
              rcases List.mem_append.mp hi with hi | hi
              · exact hno i hi p' hp'
              · rw [List.mem_singleton.mp hi,h2] at hp'; cases hp'; exact z
            · exact .inr ⟨j,pj,hb2,List.mem_append_left _ hj,hkj,ej⟩
        · rintro ⟨b1,b2⟩ s' ⟨hb,rfl,done,hl,hh⟩
          cases hb
          rcases hh with ⟨hb2,hno⟩ | ⟨j,pj,hb2,hj,hkj,ej⟩
          · cases hb2
            refine wpAny_pure ?_
            rw [S.miss (by rw [hl]; simpa using hno)] at q
            exact q
          · cases hb2
            refine wpAny_pure ?_
            rw [S.hit hkj ej] at q
            exact q
  | _ =>
    dsimp only
    refine wpAny_ite_split (λ _=>S.plain q) λ _=>?_
    refine wpAny_ite_split (λ _=>wpAny_bind (wpAny_pure ?_)) λ _=>wpAny_bind (S.tells ?_)
    all_goals
      refine wpAny_ite_split (λ z=>absurd z (by simp)) λ _=>wpAny_bind ?_
      refine wpAny_forIn_list _ (λ rest b s'=>b.1=none/\s'=s/\∃ done,placesWithHash xs.size (λ i=>xs[i]?.map (·.hash)) (hD X.w k)=done++rest/\((b.2=none/\∀ i∈done,∀ p,kvs[i]?=some p->eqDD p.1 k=false)∨∃ j p,b.2=some j/\j∈done/\kvs[j]?=some p/\eqDD p.1 k=true)) _ ?_ ?_ _ _ ⟨rfl,rfl,[],rfl,.inl ⟨rfl,λ i hi=>nomatch hi⟩⟩
      · rintro x rest ⟨b1,b2⟩ s' ⟨hb,rfl,done,hl,hh⟩
        cases hb
        obtain ⟨e,he,hhx⟩:=(S.places x).mp (by rw [hl]; simp)
        obtain ⟨e',p,h1,h2,h3,h4⟩:=S.at (Array.getElem?_eq_some_iff.mp he).1
        rw [he] at h1; cases h1
        rw [he]
        dsimp only
        rw [if_pos (by rw [hhx]; simp)]
        refine wpAny_bind (wpAny_dictEpoch S.ho S.hd (wpAny_bind (S.eq x e p he h2 _ _ (wpAny_bind (wpAny_dictEpoch S.ho S.hd ?_)))))
        refine wpAny_ite_split (λ z=>absurd z (by simp)) λ _=>?_
        cases z:eqDD p.1 k with
        | true =>
          refine wpAny_ite_split (λ _=>?_) λ z=>absurd rfl z
          rcases hh with ⟨hb2,hno⟩ | ⟨j,pj,hb2,hj,hkj,ej⟩
          · cases hb2
            refine wpAny_ite_split (λ z=>absurd z (by simp)) λ _=>wpAny_bind (wpAny_rule ?_)
            refine wpAny_ite_split (λ _=>wpAny_pure (wpAny_pure ?_)) λ _=>wpAny_pure ⟨rfl,rfl,done++[x],by simp [hl],.inr ⟨x,p,rfl,by simp,h2,z⟩⟩
            rw [S.hit h2 z] at q
            exact q
          · exfalso
            have ejx:=S.uniq hkj h2 ej z
            subst ejx
            rw [hl,List.nodup_append] at hnd
            exact hnd.2.2 j hj j List.mem_cons_self rfl
        | false =>
          refine wpAny_ite_split (λ z=>nomatch z) λ _=>wpAny_bind (wpAny_rule ?_)
          refine wpAny_ite_split (λ z=>absurd z (by simp)) λ _=>wpAny_pure ⟨rfl,rfl,done++[x],by simp [hl],?_⟩
          rcases hh with ⟨hb2,hno⟩ | ⟨j,pj,hb2,hj,hkj,ej⟩
          · refine .inl ⟨hb2,λ i hi p' hp'=>?_⟩
            rcases List.mem_append.mp hi with hi | hi
            · exact hno i hi p' hp'
            · rw [List.mem_singleton.mp hi,h2] at hp'; cases hp'; exact z
          · exact .inr ⟨j,pj,hb2,List.mem_append_left _ hj,hkj,ej⟩
      · rintro ⟨b1,b2⟩ s' ⟨hb,rfl,done,hl,hh⟩
        cases hb
        rcases hh with ⟨hb2,hno⟩ | ⟨j,pj,hb2,hj,hkj,ej⟩
        · cases hb2
          refine wpAny_pure ?_
          rw [S.miss (by rw [hl]; simpa using hno)] at q
          exact q
        · cases hb2
          refine wpAny_pure ?_
          rw [S.hit hkj ej] at q
          exact q
end
end Wy


namespace Wy
open PySem PySem.Spec PyProof.Rows L2
section
variable {X:Cx} {pins:List (Addr×Obj)} {σ:L2.St} {H G:Hp} {s:Shared} {A:Around} {E:Value->Shared->Prop}
variable {d:Addr} {kvs:List (D×D)} {es:List (V×V)} {k:D} {v:V} {u:Value}
structure Dic (X:Cx) (H G:Hp) (d:Addr) (kvs:List (D×D)) (es:List (V×V)):Prop where
  g:Same G H
  at_:H d=some (.ext (DctAt X.w d kvs es))
  dk:DenK X.K G kvs es
structure Ky (X:Cx) (G:Hp) (k:D) (v:V) (u:Value):Prop where
  dv:Den X.K G k v
  rv:RelV v u
  hk:hk 8 k=true
theorem dic_open (I:Inv X pins σ H s) (D:Dic X H G d kvs es):(d == sysModules)=false/\KOk kvs/\kvs.length<=1000000/\∃ o xs ep,s.heap.get? d=some o/\o.ExactDict/\o.data=.dict xs ep/\EntsOk X.w kvs es xs.toList:=(I.hok d _ D.at_).1
theorem dic_type (I:Inv X pins σ H s) (D:Dic X H G d kvs es):s.TypeIs (.ref d) "dict":=by
  obtain ⟨_,_,_,o,xs,ep,ho,ex,_⟩:=dic_open I D
  exact ⟨o,ho,ex.1⟩
theorem get_D (I:Inv X pins σ H s) (g:Same G H) (z0:DctAt X.w d kvs es s.heap) (dk:DenK X.K G kvs es) (Kq:Ky X G k v u) (hu:A.units + 20 < cLine) {Q:Option Value->Shared->Prop}
    (h0:kIx k kvs=none->∀ tk,Q none { s with toks:=tk }) (h1:∀ (j:Nat) (q:V×V) (x:Value),kIx k kvs=some j->es[j]?=some q->RelV q.2 x->(∃ o xs ep,s.heap.get? d=some o/\o.data=.dict xs ep/\xs[j]?.map (·.val)=some x)->∀ tk,Q (some x) { s with toks:=tk }):wpAny (model X.prog X.w) A (dictGet d u) Q E s:=by
  obtain ⟨hS,ko,hz,o,xs,ep,ho,ex,hd,en⟩:=z0
  unfold dictGet
  refine wpAny_holding (wpAny_bind (hash_D 8 k v u s A E _ I g Kq.hk (by omega) Kq.dv Kq.rv λ tk=>?_))
  have S:Seek X G { s with toks:=tk } A d o xs ep kvs es k u:=Seek.mk' (I.tok tk) g ho hd en dk ko Kq.hk hu Kq.dv Kq.rv
  refine wpAny_bind (S.find ?_)
  cases z:kIx k kvs with
  | none=>exact wpAny_pure (h0 z tk)
  | some j =>
    have hj:j < kvs.length:=by unfold kIx at z; exact (List.findIdx?_eq_some_iff_getElem.mp z).1
    have hl:=ents_len en
    have hx:j < xs.size:=by simp only [Array.length_toList] at hl; omega
    obtain ⟨p,q,e1,e2,⟨_,_,e3⟩,_⟩:=ents_get en dk j xs[j] (by rw [Array.getElem?_toList,Array.getElem?_eq_getElem hx])
    refine wpAny_bind (wpAny_dictEntries (s:={ s with toks:=tk }) ho hd ?_)
    rw [Array.getElem?_eq_getElem hx]
    exact wpAny_pure (h1 j q _ z e2 e3 ⟨o,xs,ep,ho,hd,by rw [Array.getElem?_eq_getElem hx]; rfl⟩ tk)
theorem contains_D (I:Inv X pins σ H s) (D:Dic X H G d kvs es) (Kq:Ky X G k v u) (hu:A.units + 30 < cLine) {Q:Bool->Shared->Prop} (q:∀ tk,Q (kIx k kvs).isSome { s with toks:=tk }) :
    wpAny (model X.prog X.w) A (contains (.ref d) u) Q E s:=by
  have ty:=dic_type I D
  have hS:=(dic_open I D).1
  unfold contains
  refine wpAny_holding (wpAny_bind (wpAny_specialOf ty slot_dict_contains.lookup ?_))
  refine wpAny_ite_split (λ z=>absurd z (by rw [beq_builtin_none]; exact Bool.false_ne_true)) λ _=>?_
  refine wpAny_bind (wpAny_callSpecialUnlessNone?_slot (name:=Str.ofString "__contains__") ty slot_dict_contains (wpAny_call_entry slot_dict_contains ty entry_dict_contains ?_ (args_dict_contains _ _)))
  show wpAny _ A.in1 (dictGet d u>>=λ _=>_) _ _ s
  refine wpAny_bind (get_D I D.g (dic_open I D) D.dk Kq (by show A.units + 1 + 20 < cLine; omega) (λ z tk=>?_) λ j p x z _ _ _ tk=>?_)
  · rw [z] at q
    show wpAny _ _ (Builtin.Dict.pendingKey? d u>>=λ _=>_) _ _ _
    exact wpAny_bind (wpAny_pendingKey_other hS (wpAny_pure ⟨_,rfl,wpAny_truthy_bool (q tk)⟩))
  · rw [z] at q
    exact wpAny_pure ⟨_,rfl,wpAny_truthy_bool (q tk)⟩
noncomputable def rInD (X:Cx):R2:=λ x y H Q=>∃ G d kvs es k,y=.ref d/\Dic X H G d kvs es/\Den X.K G k x/\hk 8 k=true/\Q (.bl (false != (kIx k kvs).isSome)) H
theorem op_inDic (hu:X.A.units + 150 < cLine):OpR X (compareOp .In) (rInD X):=by
  intro pins s σ H x y v u Q I rx ry h
  obtain ⟨G,d,kvs,es,k,rfl,D,dk,hk,q⟩:=h
  obtain rfl:u=Value.ref d:=ry
  show wpAny _ _ (do return Value.bool (<- contains (.ref d) v)) _ _ s
  exact wpAny_bind (contains_D I D ⟨dk,rx,hk⟩ (by omega) λ tk=>wpAny_pure ⟨.bl _,H,I.tok tk,by show Value.bool _=Value.bool _; congr 1; cases (kIx k kvs).isSome <;> rfl,q⟩)
noncomputable def valAt (h:Heap) (d:Addr) (j:Nat) (x:Value):Prop:=∃ o xs ep,h.get? d=some o/\o.data=.dict xs ep/\xs[j]?.map (·.val)=some x
theorem valAt_inj {h:Heap} {d:Addr} {j:Nat} {x y:Value} (a:valAt h d j x) (b:valAt h d j y):x=y:=by
  obtain ⟨o,xs,ep,h1,h2,h3⟩:=a
  obtain ⟨o',xs',ep',g1,g2,g3⟩:=b
  rw [h1] at g1; cases g1
  rw [h2] at g2; cases g2
  rw [h3] at g3; cases g3
  rfl
theorem getItem_D (I:Inv X pins σ H s) (D:Dic X H G d kvs es) (Kq:Ky X G k v u) (hu:A.units + 30 < cLine) {Q:Value->Shared->Prop} {j:Nat} {q:V×V} (z:kIx k kvs=some j) (e:es[j]?=some q)
    (h:∀ x,RelV q.2 x->valAt s.heap d j x->∀ tk,Q x { s with toks:=tk }):wpAny (model X.prog X.w) A (getItem (.ref d) u) Q E s:=by
  have ty:=dic_type I D
  unfold getItem
  refine wpAny_holding (wpAny_bind (wpAny_sequenceKey ty (by decide) ?_))
  refine wpAny_bind (wpAny_callSpecial?_slot (name:=Str.ofString "__getitem__") ty slot_dict_getitem (wpAny_call_entry slot_dict_getitem ty entry_dict_getitem ?_ (args_dict_getitem _ _)))
  show wpAny _ A.in1 (dictGet d u>>=λ _=>_) _ _ s
  refine wpAny_bind (get_D I D.g (dic_open I D) D.dk Kq (by show A.units + 1 + 20 < cLine; omega) (λ z'=>by rw [z] at z'; cases z') λ j' p x z' e' r va tk=>?_)
  rw [z] at z'; cases z'
  rw [e] at e'; cases e'
  exact wpAny_pure ⟨x,rfl,wpAny_pure (h x r va tk)⟩
noncomputable def rIxD (X:Cx):R2:=λ x y H Q=>∃ G d kvs es k j q,x=.ref d/\Dic X H G d kvs es/\Den X.K G k y/\hk 8 k=true/\kIx k kvs=some j/\es[j]?=some q/\Q q.2 H
theorem ix_dic (hu:X.A.units + 150 < cLine):IxR X (rIxD X):=by
  intro value slice pins s σ H x y v u Q I rx ry h hs
  obtain ⟨G,d,kvs,es,k,j,q,rfl,D,dk,hk,z,e,h⟩:=h
  obtain rfl:v=Value.ref d:=rx
  have ty:=dic_type I D
  obtain ⟨hS,ko,hz,o,xs,ep,ho,ex,hd,en⟩:=dic_open I D
  have hj:j < kvs.length:=by unfold kIx at z; exact (List.findIdx?_eq_some_iff_getElem.mp z).1
  have hl:=ents_len en
  have hx:j < xs.size:=by simp only [Array.length_toList] at hl; omega
  have va:valAt s.heap d j xs[j].val:=⟨o,xs,ep,ho,hd,by rw [Array.getElem?_eq_getElem hx]; rfl⟩
  exact subscriptTail_builtinR (x:=xs[j].val) ty slot_dict_getitem.lookup
    (getItem_D (Q:=λ r s'=>r=xs[j].val/\EP X pins σ Q r s') I D ⟨dk,ry,hk⟩ (by omega) z e λ w' rw' va' tk=>⟨valAt_inj va' va,q.2,H,I.tok tk,rw',h⟩) hs
noncomputable def putK (k dv:D) (kvs:List (D×D)):List (D×D):=match kIx k kvs with
  | some j=>kvs.modify j λ p=>(p.1,dv)
  | none=>kvs++[(k,dv)]
noncomputable def putE (j:Option Nat) (kv vv:V) (es:List (V×V)):List (V×V):=match j with
  | some j=>es.modify j λ q=>(q.1,vv)
  | none=>es++[(kv,vv)]
theorem kIx_none {k:D} {kvs:List (D×D)} (h:kIx k kvs=none):k∉kvs.map (·.1):=by
  intro hm
  obtain ⟨p,hp,rfl⟩:=List.mem_map.mp hm
  unfold kIx at h
  have:=List.findIdx?_eq_none_iff.mp h p hp
  rw [eqDD_self] at this
  cases this
theorem kok_put {k dv:D} {kvs:List (D×D)} (h:KOk kvs) (hk:hk 8 k=true):KOk (putK k dv kvs):=by
  unfold putK
  split
  · rename_i j _
    have e:(kvs.modify j λ p=>(p.1,dv)).map (·.1)=kvs.map (·.1):=by
      apply List.ext_getElem?
      intro i
      simp only [List.getElem?_map,List.getElem?_modify]
      cases kvs[i]? with
      | none=>rfl
      | some p=>by_cases z:j=i <;> simp [z]
    refine ⟨by rw [e]; exact h.1,λ p hp=>?_⟩
    have:p.1∈(kvs.modify j λ p=>(p.1,dv)).map (·.1):=List.mem_map.mpr ⟨p,hp,rfl⟩
    rw [e] at this
    obtain ⟨q,hq,e2⟩:=List.mem_map.mp this
    rw [<- e2]
    exact h.2 q hq
  · rename_i z
    refine ⟨?_,λ p hp=>?_⟩
    · rw [List.map_append,List.nodup_append]
      exact ⟨h.1,by simp,λ a ha b hb=>by
        have hb':b=k:=by simpa using hb
        rw [hb']
        exact λ e=>kIx_none z (e ▸ ha)⟩
    · rcases List.mem_append.mp hp with hp | hp
      · exact h.2 p hp
      · rw [List.mem_singleton.mp hp]; exact hk
theorem denK_get {K:PySem.W.Frag} {G:Hp}:∀ {kvs:List (D×D)} {es:List (V×V)} {j:Nat} {p:D×D},DenK K G kvs es->kvs[j]?=some p->∃ q,es[j]?=some q/\Den K G p.2 q.2
  | p::ps,q::qs,0,p',h,e=>by cases e; exact ⟨q,rfl,h.1.2⟩
  | p::ps,q::qs,j + 1,p',h,e=>by
    obtain ⟨q',h1,h2⟩:=denK_get (j:=j) h.2 (by simpa using e)
    exact ⟨q',by simpa using h1,h2⟩
  | [],[],_,_,_,e=>by simp at e
  | [],_::_,_,_,h,_=>h.elim
  | _::_,[],_,_,h,_=>h.elim
theorem denK_append {K:PySem.W.Frag} {G:Hp} {k d:D} {a b:V} (h1:Den K G k a) (h2:Den K G d b):∀ {kvs:List (D×D)} {es:List (V×V)},DenK K G kvs es->DenK K G (kvs++[(k,d)]) (es++[(a,b)])
  | [],[],_=>⟨⟨h1,h2⟩,trivial⟩
  | _::_,_::_,h=>⟨h.1,denK_append h1 h2 h.2⟩
  | [],_::_,h=>h.elim
  | _::_,[],h=>h.elim
theorem denK_modify {K:PySem.W.Frag} {G:Hp} {d:D} {b:V} (h2:Den K G d b):∀ {kvs:List (D×D)} {es:List (V×V)} (j:Nat),DenK K G kvs es->DenK K G (kvs.modify j λ p=>(p.1,d)) (es.modify j λ q=>(q.1,b))
  | [],[],_,_=>by simp [DenK]
  | _::_,_::_,0,h=>by simp only [List.modify_zero_cons]; exact ⟨⟨h.1.1,h2⟩,h.2⟩
  | _::_,_::_,j + 1,h=>by simp only [List.modify_succ_cons]; exact ⟨h.1,denK_modify h2 j h.2⟩
  | [],_::_,_,h=>h.elim
  | _::_,[],_,h=>h.elim
theorem ents_append {w:World} {k d:D} {a b:V} {e:DictEntry} (h1:e.hash=hD w k/\RelV a e.key/\RelV b e.val):∀ {kvs:List (D×D)} {es:List (V×V)} {xs:List DictEntry},EntsOk w kvs es xs->EntsOk w (kvs++[(k,d)]) (es++[(a,b)]) (xs++[e])
  | [],[],[],_=>⟨h1,trivial⟩
  | _::_,_::_,_::_,h=>⟨h.1,ents_append h1 h.2⟩
  | [],[],_::_,h=>h.elim
  | [],_::_,[],h=>h.elim
  | [],_::_,_::_,h=>h.elim
  | _::_,[],_,h=>h.elim
  | _::_,_::_,[],h=>h.elim
theorem ents_modify {w:World} {d:D} {b:V} {x:Value} (r:RelV b x):∀ {kvs:List (D×D)} {es:List (V×V)} {xs:List DictEntry} (j:Nat),EntsOk w kvs es xs->EntsOk w (kvs.modify j λ p=>(p.1,d)) (es.modify j λ q=>(q.1,b)) (xs.modify j λ e=>{ e with val:=x })
  | [],[],[],_,_=>by simp [EntsOk]
  | _::_,_::_,_::_,0,h=>by simp only [List.modify_zero_cons]; exact ⟨⟨h.1.1,h.1.2.1,r⟩,h.2⟩
  | _::_,_::_,_::_,j + 1,h=>by simp only [List.modify_succ_cons]; exact ⟨h.1,ents_modify r j h.2⟩
  | [],[],_::_,_,h=>h.elim
  | [],_::_,[],_,h=>h.elim
  | [],_::_,_::_,_,h=>h.elim
  | _::_,[],_,_,h=>h.elim
  | _::_,_::_,[],_,h=>h.elim
theorem putK_len {k dv:D} {kvs:List (D×D)}:(putK k dv kvs).length<=kvs.length + 1:=by
  unfold putK
  split <;> simp
theorem set_D (I:Inv X pins σ H s) (g:Same G H) (z0:DctAt X.w d kvs es s.heap) (dk:DenK X.K G kvs es) (Kq:Ky X G k v u) (hu:A.units + 20 < cLine) (hz:kvs.length < 1000000) {dv:D} {vv:V} {x:Value} (rx:RelV vv x) {Q:Unit->Shared->Prop}
    (q:∀ h' tk,Heap.SameBut d s.heap h'->DctAt X.w d (putK k dv kvs) (putE (kIx k kvs) v vv es) h'->Q () { s with heap:=h',toks:=tk }):wpAny (model X.prog X.w) A (dictSet d u x) Q E s:=by
  obtain ⟨hS,ko,hz',o,xs,ep,ho,ex,hd,en⟩:=z0
  have hl:=ents_len en
  have hxs:xs.size<=sizeLine:=by rw [sizeLine_eq]; simp only [Array.length_toList] at hl; omega
  unfold dictSet
  refine wpAny_holding (wpAny_bind (hash_D 8 k v u s A E _ I g Kq.hk (by omega) Kq.dv Kq.rv λ tk=>?_))
  have S:Seek X G { s with toks:=tk } A d o xs ep kvs es k u:=Seek.mk' (I.tok tk) g ho hd en dk ko Kq.hk hu Kq.dv Kq.rv
  unfold dictSetHashed
  refine wpAny_holding (wpAny_bind (S.find ?_))
  have ko':KOk (putK k dv kvs):=kok_put ko Kq.hk
  have hl':(putK k dv kvs).length<=1000000:=Nat.le_trans putK_len (by omega)
  cases z:kIx k kvs with
  | none =>
    refine wpAny_bind (wpAny_rule (wpAny_updateDictKeys (s:={ s with toks:=tk }) ho hd (q _ tk (Heap.SameBut.update ..) ⟨hS,ko',hl',?_⟩) hxs))
    refine ⟨_,_,ep + 1,Heap.get?_update_self _ ho (Obj.isFreed_of_dict (Obj.data_mapDictKeys hd _)),ex.mapDictKeys _,Obj.data_mapDictKeys hd _,?_⟩
    unfold putK putE
    rw [z]
    simp only [Array.toList_push]
    exact ents_append ⟨rfl,Kq.rv,rx⟩ en
  | some j =>
    refine wpAny_bind (wpAny_rule (wpAny_bind (wpAny_updateDict (s:={ s with toks:=tk }) ho hd (wpAny_point (q _ tk (Heap.SameBut.update ..) ⟨hS,ko',hl',?_⟩)))))
    refine ⟨_,_,ep,Heap.get?_update_self _ ho (Obj.isFreed_of_dict (Obj.data_mapDict hd _)),ex.mapDict _,Obj.data_mapDict hd _,?_⟩
    unfold putK putE
    rw [z]
    dsimp only
    rw [Array.toList_modify]
    exact ents_modify rx j en
theorem dct_stable {w:World} {a:Addr} {kvs:List (D×D)} {es:List (V×V)} (h1 h2:Heap) (h:DctAt w a kvs es h1) (k:∀ o,h1.get? a=some o->h2.get? a=some o):DctAt w a kvs es h2:=by
  obtain ⟨hS,ko,hz,o,xs,ep,ho,r⟩:=h
  exact ⟨hS,ko,hz,o,xs,ep,k o ho,r⟩
theorem dct_ok {H:Hp} {h:Heap} {P:Program} {w:World} {a:Addr} {kvs:List (D×D)} {es:List (V×V)} (z:DctAt w a kvs es h):ObjOk P w H h a (.ext (DctAt w a kvs es)):=by
  refine ⟨z,?_,λ h1 h2 a b=>dct_stable h1 h2 a b⟩
  obtain ⟨_,_,_,o,_,_,ho,_⟩:=z
  exact ⟨o,ho⟩
end
end Wy


namespace Wy
open PySem PySem.Spec PyProof.Rows L2
section
variable {K:PySem.W.Frag} {H₀ G₀ H G H' G':Hp} {Γ:Ga} {σ:L2.St} {w:World}
theorem Rep.setD (R:Rep K H₀ G₀ Γ σ H G) (i:Nat) {kvs:List (D×D)} {es:List (V×V)} {a:Addr} (h:H a=some (.ext (DctAt w a kvs es))) (h0:H₀ a=none) (hg:G a=none) (hd:DenK K G kvs es)
    (nw:∀ (j:Nat) y,j≠i->Γ[j]?=some y->y.mu=true->σ[j]?≠some (some (.ref a))):Rep K H₀ G₀ (Γ.set i (.dic w kvs)) (σ.set i (some (.ref a))) H G :=
  R.putS i (x:=.dic w kvs) ⟨a,es,rfl,h,h0,hg,hd⟩ λ _ j y b hj hy hm e=>by cases e; exact nw j y hj hy hm
end
noncomputable def TellsD (X:Cx) (W:XP) (t:TE) (f:Ga->R (List (D×D))):Prop :=
  ∀ (H₀ G₀:Hp) (Γ:Ga) (σ:L2.St) (H G:Hp),Rep X.K H₀ G₀ Γ σ H G->∀ Q:VK,(f Γ).want (exAt W σ H G) (λ kvs=>∀ a es H' G',Ext H G H' G'->H' a=some (.ext (DctAt X.w a kvs es))->DenK X.K G' kvs es->Q (.ref a) H')->t σ H Q
noncomputable def DiD (X:Cx) (W:XP) (e:Expr) (f:Ga->R (List (D×D))):Prop:=∃ t,PE X e t/\TellsD X W t f
noncomputable def TellsE (X:Cx) (W:XP) (t:TE) (f:Ga->R (List (D×D))):Prop :=
  ∀ (H₀ G₀:Hp) (Γ:Ga) (σ:L2.St) (H G:Hp),Rep X.K H₀ G₀ Γ σ H G->∀ Q:VK,(f Γ).want (exAt W σ H G) (λ kvs=>∀ p es H' G',Ext H G H' G'->H p=none->H' p=some (.ext (DctAt X.w p kvs es))->G' p=none->DenK X.K G' kvs es->Q (.ref p) H')->t σ H Q
noncomputable def OdD (X:Cx) (W:XP) (e:Expr) (f:Ga->R (List (D×D))):Prop:=∃ t,PE X e t/\TellsE X W t f
section
variable {X:Cx} {W:XP} {a b c e:Expr} {fa fb fc f:Ga->R D} {fd:Ga->R (List (D×D))} {pos pos' p2 apos cpos:Pos} {x:Str}
noncomputable def dV (w:World) (i:Nat):Ga->R (List (D×D)):=open Classical in λ Γ=>match Γ[i]? with
  | some (.dic w' kvs)=>if w'=w then .ok kvs else .no
  | some (.vdi w' kvs)=>if w'=w then .ok kvs else .no
  | _=>.no
theorem dV_dic {w:World} {i:Nat} {Γ:Ga} {kvs:List (D×D)} (h:Γ[i]?=some (.dic w kvs)):dV w i Γ=.ok kvs:=by
  unfold dV
  rw [h]
  exact if_pos rfl
theorem dV_vdi {w:World} {i:Nat} {Γ:Ga} {kvs:List (D×D)} (h:Γ[i]?=some (.vdi w kvs)):dV w i Γ=.ok kvs:=by
  unfold dV
  rw [h]
  exact if_pos rfl
theorem di_var (i:Nat) (hN:X.N[i]?=some x:=by rfl) (hv:Vis X.env.scope x:=by first | exact Or.inl rfl | exact Or.inr (Or.inl rfl) | exact Or.inr (Or.inr rfl)) (hd:(x == ("__debug__":Str))=false:=by decide)
    (hcd:(x == ("__classdict__":Str))=false:=by decide):DiD X W (.Name x pos) (dV X.w i) :=
  ⟨_,pe_var hN hv hd hcd,λ _ _ Γ _ H G R Q w=>by
    unfold dV at w
    split at w
    · rename_i w' kvs q
      split at w
      · rename_i e
        subst e
        obtain ⟨a,es,e1,e2,e3,e4,e5⟩:=R.all i _ q
        exact ⟨_,e1,w a es H G (.refl R.gh) e2 e5⟩
      · exact w.elim
    · rename_i w' kvs q
      split at w
      · rename_i e
        subst e
        obtain ⟨a,es,e1,e2,e3,e5⟩:=R.all i _ q
        exact ⟨_,e1,w a es H G (.refl R.gh) e2 e5⟩
      · exact w.elim
    · exact w.elim⟩
noncomputable def inK (n:Bool) (k:D) (kvs:List (D×D)):R D:=if hk 8 k=true then .ok (.bl (n != (kIx k kvs).isSome)) else .no
noncomputable def eInD (n:Bool) (fk:Ga->R D) (fd:Ga->R (List (D×D))):Ga->R D:=λ Γ=>(fk Γ).bind λ k=>(fd Γ).bind λ kvs=>inK n k kvs
noncomputable def getK (k:D) (kvs:List (D×D)):R D:=if hk 8 k=true then .ofO ((kIx k kvs).bind λ j=>kvs[j]?.map (·.2)) else .no
noncomputable def eIxD (fd:Ga->R (List (D×D))) (fk:Ga->R D):Ga->R D:=λ Γ=>(fd Γ).bind λ kvs=>(fk Γ).bind λ k=>getK k kvs
theorem dic_of {H G:Hp} {d:Addr} {kvs:List (D×D)} {es:List (V×V)} (g:Same G H) (h:H d=some (.ext (DctAt X.w d kvs es))) (k:DenK X.K G kvs es):Dic X H G d kvs es:=⟨g,h,k⟩
theorem inD_tells (n:Bool) {t1 t2:TE} {r:R2} (q1:Tells X.K W t1 fa) (q2:TellsD X W t2 fd)
    (hr:∀ x y H Q,(∃ G d kvs es k,y=.ref d/\Dic X H G d kvs es/\Den X.K G k x/\hk 8 k=true/\Q (.bl (n != (kIx k kvs).isSome)) H)->r x y H Q):Tells X.K W (tOp r t1 t2) (eInD n fa fd):=λ H₀ G₀ Γ σ H G R Q w=>by
  refine q1 _ _ _ _ _ _ R _ (wStep w (λ _ h=>h) λ k w v H1 G1 E1 d1=>?_)
  refine q2 _ _ _ _ _ _ (R.after E1) _ (wStep w (λ _ h=>h.up E1) λ kvs w d es H2 G2 E2 h2 k2=>?_)
  unfold inK at w
  split at w
  · rename_i hk'
    exact hr _ _ _ _ ⟨G2,d,kvs,es,k,rfl,dic_of E2.gh h2 k2,d1.up E2.gg,hk',w _ H2 G2 (E1.trans E2) den_bl⟩
  · exact w.elim
theorem tv_inD (hu:X.A.units + 150 < cLine) (ha:EvD X W a fa) (hb:DiD X W b fd) (hm:behindInMarks .In b=false:=by first | exact nomark _ | with_unfolding_all rfl):TvD X W (.Compare a [.In] [b] pos) (tB (eInD false fa fd)):=by
  obtain ⟨t1,p1,q1⟩:=ha
  obtain ⟨t2,p2,q2⟩:=hb
  exact tv_of_test (pt_cmpR (op_inDic hu) p1 p2 hm) (inD_tells false q1 q2 λ _ _ _ _ h=>h)
theorem ev_ixD (hu:X.A.units + 150 < cLine) (ha:DiD X W a fd) (hb:EvD X W b fb) (hs:PlainIx b:=by intro _ _; rfl):EvD X W (.Subscript a b pos) (eIxD fd fb):=by
  obtain ⟨t1,p1,q1⟩:=ha
  obtain ⟨t2,p2,q2⟩:=hb
  refine ⟨_,pe_ix (ix_dic hu) p1 p2 hs,λ H₀ G₀ Γ σ H G R Q w=>?_⟩
  refine q1 _ _ _ _ _ _ R _ (wStep w (λ _ h=>h) λ kvs w d es H1 G1 E1 h1 k1=>?_)
  refine q2 _ _ _ _ _ _ (R.after E1) _ (wStep w (λ _ h=>h.up E1) λ k w v H2 G2 E2 d2=>?_)
  unfold getK at w
  split at w
  · rename_i hk'
    obtain ⟨y,e',k'⟩:=wOfO w
    obtain ⟨j,e1,e2⟩:=Option.bind_eq_some_iff.mp e'
    obtain ⟨p,e3,rfl⟩:=Option.map_eq_some_iff.mp e2
    obtain ⟨q,e4,e5⟩:=denK_get (k1.up E2.gg) e3
    exact ⟨G2,d,kvs,es,k,j,q,rfl,dic_of E2.gh (E2.hh.nt _ _ h1 rfl) (k1.up E2.gg),d2,hk',e1,e4,k' _ H2 G2 (E1.trans E2) e5⟩
  · exact w.elim
noncomputable def sSetD (w:World) (i:Nat) (fd:Ga->R (List (D×D))):Ga->RS:=λ Γ=>.of (fd Γ) Γ λ kvs=>.nx (Γ.set i (.dic w kvs))
theorem x_setD (i:Nat) (he:OdD X W e fd) (hN:X.N.Nodup) (hi:X.N[i]?=some x:=by rfl) (hx:Loc X.env.scope x:=by first | exact Or.inl rfl | exact Or.inr rfl) (hs:swapsWith e (some (.Name x pos')) pos.line X.env=pure false:=by rfl)
    (hf:X.fn x=true∨X.env.scope.names.lookup x=some .local:=by first | exact .inl rfl | exact .inr rfl | assumption):ExD X W (.Assign [.Name x pos'] e pos) (sSetD X.w i fd):=by
  obtain ⟨t,p,q⟩:=he
  refine ⟨_,ps_set hN hi hx p hs hf,λ H₀ G₀ Γ σ H G R D w=>?_⟩
  exact q _ _ _ _ _ _ R _ (wS R w λ d w p es H' G' E1 hp h' g' l=>w _ H' G' ((R.after E1).setD i h' (R.ex.hh.free hp) g' l λ j ys hj hy=>own_new R hp j ys hy))
theorem denK_put {K:PySem.W.Frag} {G:Hp} {k d:D} {a b:V} {kvs:List (D×D)} {es:List (V×V)} (h1:Den K G k a) (h2:Den K G d b) (h:DenK K G kvs es):DenK K G (putK k d kvs) (putE (kIx k kvs) a b es):=by
  unfold putK putE
  cases kIx k kvs with
  | some j=>exact denK_modify h2 j h
  | none=>exact denK_append h1 h2 h
theorem inv_big {pins:List (Addr×Obj)} {σ:L2.St} {H:Hp} {s:Shared} (I:Inv X pins σ H s):(s.heap.objs.size == sysModules)=false:=by
  have h:mainGlobals < s.heap.objs.size:=(I.mod.glob.keeps I.bk).lt
  have h2:sysModules < s.heap.objs.size:=Nat.lt_trans (by decide) h
  exact beq_eq_false_iff_ne.mpr (Nat.ne_of_gt h2)
theorem dct_new {w:World} {h:Heap} (hs:(h.objs.size == sysModules)=false):DctAt w h.objs.size [] [] (h.push { cls:=.type "dict",data:=.dict #[] }) :=
  ⟨hs,⟨by simp,λ p hp=>nomatch hp⟩,Nat.zero_le _,_,#[],0,Heap.get?_push_size _ rfl,⟨rfl,rfl,rfl⟩,rfl,trivial⟩
end
end Wy


namespace Wy
open PySem PySem.Spec PyProof.Rows L2
noncomputable def encK (kvs:List (D×D)):D:=.lst (kvs.map λ p=>.tup [p.1,p.2])
noncomputable def decP:D->D×D
  | .tup [a,b]=>(a,b)
  | _=>(.non,.non)
noncomputable def decK:D->List (D×D)
  | .lst ds=>ds.map decP
  | _=>[]
theorem decK_encK (kvs:List (D×D)):decK (encK kvs)=kvs:=by
  unfold encK
  show List.map decP (List.map _ kvs)=kvs
  rw [List.map_map]
  conv=>rhs; rw [<- List.map_id kvs]
  exact List.map_congr_left λ p _=>rfl
noncomputable def DenP (K:PySem.W.Frag) (w:World) (H G:Hp):List Bool->List D->List V->Prop
  | [],[],[]=>True
  | true::bs,d::ds,v::vs=>(∃ kvs a es,d=encK kvs/\v=.ref a/\H a=some (.ext (DctAt w a kvs es))/\DenK K G kvs es)/\DenP K w H G bs ds vs
  | false::bs,d::ds,v::vs=>Den K G d v/\DenP K w H G bs ds vs
  | _,_,_=>False
theorem DenP.len {K:PySem.W.Frag} {w:World} {H G:Hp}:∀ {bs:List Bool} {ds:List D} {vs:List V},DenP K w H G bs ds vs->ds.length=bs.length/\vs.length=bs.length
  | [],[],[],_=>⟨rfl,rfl⟩
  | true::bs,d::ds,v::vs,⟨_,r⟩=>by have:=r.len; simp [this.1,this.2]
  | false::bs,d::ds,v::vs,⟨_,r⟩=>by have:=r.len; simp [this.1,this.2]
  | [],[],_::_,h=>h.elim
  | [],_::_,_,h=>h.elim
  | true::_,[],_,h=>h.elim
  | false::_,[],_,h=>h.elim
  | true::_,_::_,[],h=>h.elim
  | false::_,_::_,[],h=>h.elim
noncomputable def begK (w:World):List Bool->List D->Ga
  | true::bs,d::ds=>.vdi w (decK d)::begK w bs ds
  | false::bs,d::ds=>.val d::begK w bs ds
  | _,_=>[]
noncomputable def beginK (w:World) (bs:List Bool) (N:List Str) (ds:List D):Ga:=begK w bs ds++List.replicate (N.length - ds.length) Sl.un
theorem begK_nomu {w:World}:∀ {bs:List Bool} {ds:List D} {x:Sl},x∈begK w bs ds->x.mu=false
  | true::bs,d::ds,x,h=>by
    rcases List.mem_cons.mp h with rfl | h
    · rfl
    · exact begK_nomu h
  | false::bs,d::ds,x,h=>by
    rcases List.mem_cons.mp h with rfl | h
    · rfl
    · exact begK_nomu h
  | [],ds,x,h=>by cases ds <;> cases h
  | true::_,[],x,h=>by cases h
  | false::_,[],x,h=>by cases h
theorem slK {K:PySem.W.Frag} {w:World} {H G:Hp}:∀ {bs:List Bool} {ds:List D} {vs:List V},DenP K w H G bs ds vs->SlL K H H G (begK w bs ds) (vs.map some)
  | [],[],[],_=>SlL.vals (ds:=[]) (us:=[]) (denL_nil.mpr rfl)
  | true::bs,d::ds,v::vs,⟨⟨kvs,a,es,h1,h2,h3,h4⟩,r⟩=>by
    subst h1 h2
    have s:=(SlL.one (K:=K) (H₀:=H) (H:=H) (G:=G) (x:=.vdi w (decK (encK kvs))) (o:=some (V.ref a)) (by rw [decK_encK]; exact ⟨a,es,rfl,h3,some_ne h3,h4⟩)).append (slK r)
    exact s
  | false::bs,d::ds,v::vs,⟨h,r⟩=>(SlL.one (K:=K) (H₀:=H) (H:=H) (G:=G) (x:=.val d) (o:=some v) ⟨v,rfl,h⟩).append (slK r)
  | [],[],_::_,h=>h.elim
  | [],_::_,_,h=>h.elim
  | true::_,[],_,h=>h.elim
  | false::_,[],_,h=>h.elim
  | true::_,_::_,[],h=>h.elim
  | false::_,_::_,[],h=>h.elim
theorem rep_beginK {K:PySem.W.Frag} {w:World} {H G:Hp} {N:List Str} {bs:List Bool} {ds:List D} {vs:List V} (g:Same G H) (tb:TabIn K H G) (l:DenP K w H G bs ds vs):Rep K H G (beginK w bs N ds) (L2.start N vs) H G:=by
  have hl:=l.len
  have e:L2.start N vs=vs.map some++List.replicate (N.length - ds.length) none:=by
    unfold L2.start
    rw [hl.1,<- hl.2]
  rw [e]
  have s:=(slK l).append (SlL.uns (H₀:=H) (H:=H) (K:=K) (G:=G) (N.length - ds.length))
  refine ⟨.refl g,tb,s.1,s.2,λ i j y z a h1 h2 m1 m2 _ _=>?_⟩
  have:=List.mem_of_getElem? h1
  rcases List.mem_append.mp this with h | h
  · rw [begK_nomu h] at m1; cases m1
  · rw [(List.mem_replicate.mp h).2] at m1; cases m1
noncomputable def spK (K:PySem.W.Frag) (w:World) (bs:List Bool) (F:List D->R D):Sp:=λ vs H Q E=>∃ (G:Hp) (ds:List D),Same G H/\TabIn K H G/\DenP K w H G bs ds vs /\
  (F ds).want (λ c=>∀ cls dx H' G',ClsIs K c cls->Ext H G H' G'->E cls dx H') (λ d=>∀ v H' G',Ext H G H' G'->Den K G' d v->Q v H')
noncomputable def callK (w:World) (bs:List Bool) (N:List Str) (S:Ga->RS) (ds:List D):R D:=match S (beginK w bs N ds) with
  | .rt d=>.ok d
  | .nx _=>.ok .non
  | .ex c _=>.ex c
  | _=>.no
noncomputable def parW {α:Type} (g:World->R α):R α:=open Classical in if h:∃ r,∀ w,g w=r then Classical.choose h else .no
theorem parW_eq {α:Type} {g:World->R α} {r:R α} (h:∀ w,g w=r) (w0:World):parW g=r:=by
  unfold parW
  have hx:∃ r,∀ w,g w=r:=⟨r,h⟩
  rw [dif_pos hx]
  rw [<- Classical.choose_spec hx w0,h w0]
theorem parW_want {α:Type} {g:World->R α} {E:Str->Prop} {P:α->Prop} (w:(parW g).want E P) (w0:World):(g w0).want E P:=by
  unfold parW at w
  split at w
  · rename_i h; rw [Classical.choose_spec h w0]; exact w
  · exact w.elim
section
variable {P:Program} {w:World} {K:PySem.W.Frag} {mg:Str->Option Value} {base:Heap}
theorem fn_K1 {x qual:Str} {st:Stmt} {f:Addr} {fd:FuncData} {N ps:List Str} {bs:List Bool} {k:Nat} {S:Ga->RS} (Fn:Fun K x qual st f fd) (Sc:FnScope N ps (defScope st)) (hbs:bs.length=ps.length)
    (B:∀ (cdv:Value) (A:Around) (outer:List Env) (s:Shared) (H:Hp) (W:XP) (E:XK),Room k (A.deeper (envOfC qual (defScope st) s.heap.objs.size f cdv)) ->
      ExDs ((cxOf (CX1 P w) P w K mg base N qual (defScope st) f cdv A outer s H E).xw W) W (defBody st) S) :
    FnOk P w K mg base (CX1 P w) (k + 1) f fd ps (spK K w bs λ ds=>callK w bs N S ds):=by
  obtain ⟨oc,od,kV,doc,pm,an,cdv,ct,osl,rfl,lk,hcd⟩:=Fn.ex
  refine fn_of lk hcd Sc (λ vs H Q E h=>?_) λ A outer s H vs Q E hr h=>?_
  · obtain ⟨G,ds,_,_,l,_⟩:=h
    exact l.len.2.trans hbs
  · obtain ⟨G,ds,g,tb,l,q⟩:=h
    obtain ⟨t,pt,hd⟩:=B cdv A outer s H (λ c _ H' G'=>Ext H G H' G'/\∀ cls,ClsIs K c cls->E cls none H') E hr
    refine ⟨t,pss_wish pt ?_,hd H G _ _ H G (rep_beginK g tb l) _ ?_⟩
    · rintro e s' ⟨ea,σ,H',G',c,C,rfl,I,hc,⟨_,hw⟩,x⟩
      have Dc:DefCx (cxOf (CX1 P w) P w K mg base N qual (defScope st) f cdv A outer s H E):=⟨rfl,rfl,rfl⟩
      show wpAny _ _ (leaving _ (.ref ea)) _ _ s'
      unfold leaving
      refine wpAny_bind (note_ok (X:=cxOf (CX1 P w) P w K mg base N qual (defScope st) f cdv A outer s H E) Dc I x λ s1 I1 x1=>?_)
      refine flight_ok (X:=cxOf (CX1 P w) P w K mg base N qual (defScope st) f cdv A outer s H E) (o:=none) I1 x1 rfl λ s2 I2 x2=>?_
      have young:∀ b,Fp (cxOf (CX1 P w) P w K mg base N qual (defScope st) f cdv A outer s H E) [] H' b->s.heap.get? b=none/\H' b=none:=λ b hb=>⟨hb.new,hb.fr⟩
      exact ⟨ea,C,H',rfl,I2.os,I2.bare,I2.base,I2.hok,hw _ ⟨C,rfl,hc⟩,x2.at young (.inl rfl)⟩
    · unfold callK at q
      dsimp only at q
      cases hS:S (beginK w bs N ds) with
      | rt d=>rw [hS] at q; exact λ v H' G' e dv=>q v H' G' e dv
      | nx Γ=>rw [hS] at q; exact λ σ H' G' R=>q _ H' G' R.ex den_non
      | bk Γ=>rw [hS] at q; exact q.elim
      | ct Γ=>rw [hS] at q; exact q.elim
      | ex c Γ=>rw [hS] at q; exact λ σ H' G' R=>⟨R.ex,λ cls hcls=>q cls none H' G' hcls R.ex⟩
      | no=>rw [hS] at q; exact q.elim
theorem spK_parW {bs:List Bool} {F:World->List D->R D} {vs:List V} {H:Hp} {Q:VK} {E:XK} (h:spK K w bs (λ ds=>parW λ w=>F w ds) vs H Q E):spK K w bs (F w) vs H Q E:=by
  obtain ⟨G,ds,g,t,l,q⟩:=h
  exact ⟨G,ds,g,t,l,parW_want q w⟩
theorem spF_parW {n:Nat} {F:World->List D->R D} {vs:List V} {H:Hp} {Q:VK} {E:XK} (h:spF K mg n (λ ds=>parW λ w=>F w ds) vs H Q E):spF K mg n (F w) vs H Q E:=by
  obtain ⟨G,ds,g,t,l,hl,q⟩:=h
  exact ⟨G,ds,g,t,l,hl,parW_want q w⟩
end
section
variable {X:Cx} {W:XP} {e:Expr} {es:List Expr} {f:Ga->R D} {fd:Ga->R (List (D×D))} {fl:Ga->R (List D)} {pos p:Pos} {x:Str}
noncomputable def AvK (X:Cx) (W:XP) (es:List Expr) (bs:List Bool) (f:Ga->R (List D)):Prop:=∃ t,PA X es t /\
  ∀ (H₀ G₀:Hp) (Γ:Ga) (σ:L2.St) (H G:Hp),Rep X.K H₀ G₀ Γ σ H G->∀ (Q:List V->Hp->Prop),
    (f Γ).want (exAt W σ H G) (λ ds=>∀ vs H' G',Ext H G H' G'->DenP X.K X.w H' G' bs ds vs->Q vs H')->t σ H Q
theorem ak_nil:AvK X W [] [] aNil:=⟨_,pa_nil,λ _ _ _ _ H G R Q w=>w [] H G (.refl R.gh) trivial⟩
theorem ak_ev {bs:List Bool} (he:EvD X W e f) (hr:AvK X W es bs fl) (hs:starEach (e::es) X.env=(false,eval e X.env)::starEach es X.env:=by rfl):AvK X W (e::es) (false::bs) (aCons f fl):=by
  obtain ⟨t,pt,q⟩:=he
  obtain ⟨ts,ps,qs⟩:=hr
  refine ⟨_,pa_cons pt ps hs,λ H₀ G₀ Γ σ H G R Q w=>?_⟩
  refine q _ _ _ _ _ _ R _ (wStep w (λ _ h=>h) λ d w v H1 G1 E1 d1=>?_)
  refine qs _ _ _ _ _ _ (R.after E1) _ (wStep w (λ _ h=>h.up E1) λ ds w vs H2 G2 E2 d2=>?_)
  exact w _ H2 G2 (E1.trans E2) ⟨d1.up E2.gg,d2⟩
noncomputable def aDic (fd:Ga->R (List (D×D))) (fl:Ga->R (List D)):Ga->R (List D):=λ Γ=>(fd Γ).bind λ kvs=>(fl Γ).bind λ r=>.ok (encK kvs::r)
theorem ak_di {bs:List Bool} (he:DiD X W e fd) (hr:AvK X W es bs fl) (hs:starEach (e::es) X.env=(false,eval e X.env)::starEach es X.env:=by rfl):AvK X W (e::es) (true::bs) (aDic fd fl):=by
  obtain ⟨t,pt,q⟩:=he
  obtain ⟨ts,ps,qs⟩:=hr
  refine ⟨_,pa_cons pt ps hs,λ H₀ G₀ Γ σ H G R Q w=>?_⟩
  refine q _ _ _ _ _ _ R _ (wStep w (λ _ h=>h) λ kvs w a es1 H1 G1 E1 h1 k1=>?_)
  refine qs _ _ _ _ _ _ (R.after E1) _ (wStep w (λ _ h=>h.up E1) λ ds w vs H2 G2 E2 d2=>?_)
  exact w _ H2 G2 (E1.trans E2) ⟨⟨kvs,a,es1,rfl,rfl,E2.hh.nt _ _ h1 rfl,k1.up E2.gg⟩,d2⟩
theorem ev_callK {CX:CXT} {k:Nat} {fa:Addr} {fd:FuncData} {ps:List Str} {bs:List Bool} {F:List D->R D} (Fn:FnOk X.prog X.w X.K X.mg X.base CX k fa fd ps (spK X.K X.w bs F)) (hx:PassW CX X W) (hr:Room k X.A) (hg:Gl X x) (hm:X.mg x=some (.ref fa))
    (hk:PySem.W.keepIn X.K (.ref fa)=true) (hb:Binds X.K fd ps []) (ha:AvK X W (e::es) bs fl) (hdb:(x == ("__debug__":Str))=false:=by decide)
    (he:starEach (e::es) X.env=(false,eval e X.env)::starEach es X.env:=by rfl) (hpl:(backTo pos (starEach es X.env)).any (·.1)=false:=by rfl) :
    EvD X W (.Call (.Name x p) (e::es) [] pos) (eCall F fl):=by
  obtain ⟨t,pt,q⟩:=ha
  refine ⟨_,pe_callX Fn hr hg hm hk hb hx pt hdb he hpl,λ H₀ G₀ Γ σ H G R Q w=>?_⟩
  refine q _ _ _ _ _ _ R _ (wStep w (λ _ h=>h) λ ds w vs H1 G1 E1 d1=>?_)
  exact ⟨G1,ds,E1.gh,E1.tab R.tab,d1,wImp w (λ c h cls dx H' G' hc E2=>⟨c,G',hc,h H' G' (E1.trans E2)⟩) λ d w v H' G' E2 d2=>w v H' G' (E1.trans E2) d2⟩
end
end Wy


namespace Wy
open PySem PySem.Spec PyProof.Rows L2
theorem world_any:Nonempty World:=⟨⟨λ _ _=>0,{ strHash:=λ _=>0,shareClass:=λ _=>default,mergeTok:=λ _=>default,idOf:=λ _=>0,idOfShared:=λ _ _=>0,followText:=λ _=>false,idOfImm:=λ _=>0 }⟩⟩
theorem list_no_keys:typeLookup (.type "list") "keys"=pure none:=by rw [typeLookup_type,builtinLookup_eq_fast]; kernel_rfl
section
variable {prog:Program} {w:World} {A:Around} {E:Value->Shared->Prop} {s:Shared}
theorem keys_miss {a:Addr} {xs:Array Value} {k:Nat} {sl:Array (Option Value)} {Q:Option Value->Shared->Prop} (ho:s.heap.get? a=some { cls:=.type "list",dict:=none,data:=.seq xs k,slots:=sl }) (hA:A.handled=none)
    (q:∀ h' tk,(∀ b o,s.heap.get? b=some o->h'.get? b=some o)->Q none { s with heap:=h',toks:=tk }):wpAny (model prog w) A (getAttr? (.ref a) "keys") Q E s:=by
  obtain ⟨hp,g,d,tk0,os⟩:=s
  have ty:∀ tk',(⟨hp,g,d,tk',os⟩:Shared).TypeIs (.ref a) "list":=λ _=>⟨_,ho,rfl⟩
  have g1:=sub_AttributeError
  have g3:=F.slot_list_getattribute.lookup
  have g4:=F.slot_list_getattribute.bind (.ref a)
  have g5:=am_list_getattr_none
  unfold getAttr? getAttrBy? getAttrBy
  repeat (any_goals (first | assumption | exact ty _ | ((with_reducible show wpAny _ _ (call (Value.builtin "list.__getattribute__") _ _) _ _ _); refine call_meets F.slot_list_getattribute (ty _) am_entry_list_getattribute (F.args_list_getattribute_2 _ _) (meets_getattribute_miss_list a xs k sl "keys" _ list_no_keys (by decide)) ⟨ho,hA,λ h' tk' e hx'=>?_⟩) | wp_step))
  obtain ⟨t1,u1,hthere⟩:=hx'.there
  have tye:(⟨h',g,d,tk',os⟩:Shared).TypeIs (.ref e) "AttributeError":=⟨_,hthere,rfl⟩
  show wpAny _ _ (getattributeRaised (.ref a) _ _ (.ref e) none false false) _ _ _
  unfold getattributeRaised
  repeat (any_goals (first | assumption | wp_step))
  exact q h' tk' hx'.keeps
end
theorem entry_duloop:entryFor table "dict.update.loop"=some Builtin.«dict.update.loop»:=entryFor_of_tree (by kernel_rfl)
theorem plain_duloop:plainId "dict.update.loop"=true:=by decide +kernel
noncomputable def addK (acc:List (D×D)) (p:D×D):List (D×D):=putK p.1 p.2 acc
noncomputable def mkK (kvs:List (D×D)):List (D×D):=kvs.foldl addK []
theorem addK_len:∀ (kvs acc:List (D×D)),(kvs.foldl addK acc).length<=acc.length + kvs.length
  | [],acc=>Nat.le_refl _
  | p::kvs,acc=>by
    have h1:=addK_len kvs (addK acc p)
    have h2:(addK acc p).length<=acc.length + 1:=putK_len
    simp only [List.foldl_cons,List.length_cons]
    omega
section
variable {X:Cx} {pins:List (Addr×Obj)} {σ:L2.St} {H G:Hp} {s0:Shared} {A:Around} {R:Result->Shared->Prop}
theorem pair_items {a:Addr} {u1 u2:Value} {E:Value->Shared->Prop} {s:Shared} {M:Model} {Q:List Value->Shared->Prop} (h:IsTup s.heap a #[u1,u2]) (q:Q [u1,u2] s):wpAny M A (Builtin.Dict.pairItems (.ref a)) Q E s:=by
  obtain ⟨o,ho,hc,n,hd⟩:=h
  have ty:s.TypeIs (.ref a) "tuple":=⟨o,ho,hc⟩
  unfold Builtin.Dict.pairItems
  refine wpAny_bind (wpAny_typeOf ty ?_)
  refine wpAny_ite_split (λ _=>?_) λ z=>absurd rfl z
  exact wpAny_bind (wpAny_seqItems ho hd (wpAny_pure q))
theorem dict_loop (I0:Inv X pins σ H s0) (g:Same G H) (hh:A.handled=none) (hu:A.units + 60 < cLine) {d It l:Addr} {its:List Value} {kvs:List (D×D)} {vs:List V} (hl:DenL X.K G (kvs.map λ p=>D.tup [p.1,p.2]) vs) (hv:Vals vs its) (hk8:∀ p∈kvs,hk 8 p.1=true) (hz:kvs.length < 1000000)
    (hd0:s0.heap.objs.size<=d) (hI0:s0.heap.objs.size<=It) (hdI:d≠It) (hll:l < s0.heap.objs.size)
    (hR:∀ h' tk es,(∀ b o,s0.heap.get? b=some o->h'.get? b=some o)->DctAt X.w d (mkK kvs) es h'->DenK X.K G (mkK kvs) es->R (.ok (.ret .none)) { s0 with heap:=h',toks:=tk }) :
    ∀ (m i:Nat) (h:Heap) (tk:Nat) (t:Tok) (es:List (V×V)),kvs.length - i=m->i<=kvs.length->(∀ b o,s0.heap.get? b=some o->h.get? b=some o)->h.IsListIter It l i->h.IsList l its.toArray->DctAt X.w d ((kvs.take i).foldl addK []) es h->DenK X.K G ((kvs.take i).foldl addK []) es ->
      codeAny (model X.prog X.w) A (.builtin "dict.update.loop" ⟨[.ref d,.ref It,.int i t,.none],[]⟩) R { s0 with heap:=h,toks:=tk }:=by
  have hlen:kvs.length=its.length:=by rw [<- hv.length,<- hl.length]; simp
  have W:=(Walks.list (prog:=X.prog) (w:=X.w) (A:=A.in1) hh It l (Nat.ne_of_lt (Nat.lt_of_lt_of_le hll hI0)) its.toArray).toS
  have hdf:d∉[It,l]:=by
    simp only [List.mem_cons,List.not_mem_nil,or_false,not_or]
    exact ⟨hdI,λ e=>by rw [e] at hd0; exact absurd hll (Nat.not_lt.mpr hd0)⟩
  intro m
  induction m with
  | zero =>
    intro i h tk t es hm hi keep hit hil hD hK
    have hin:i=kvs.length:=by omega
    subst hin
    rw [List.take_length] at hD hK
    refine codeAny_builtin entry_duloop ?_
    rw [Around.under_plainId plain_duloop _]
    show wpAny _ A.in1 (pyNext (.ref It)>>=λ _=>_) _ _ _
    refine wpAny_bind (W.done { s0 with heap:=h,toks:=tk } _ _ (by rw [List.size_toArray,<- hlen]; exact ⟨hit,hil⟩) λ s' hm=>?_)
    obtain ⟨h',g',d',tk',os'⟩:=s'
    have eg:g'=s0.gens:=hm.gens
    have ed:d'=s0.drawn:=hm.drawn
    have eo:os'=s0.os:=hm.os
    subst eg; subst ed; subst eo
    show wpAny _ _ (Builtin.Dict.addKeywords d []>>=λ _=>ret Value.none) _ _ _
    have hm':∀ b o,b≠It->h.get? b=some o->h'.get? b=some o:=λ b o nb e=>hm.heap b o (by simpa using nb) e
    refine wpAny_bind (wpAny_pure (wpAny_pure (hR h' tk' es (λ b o e=>hm' b o (λ z=>by subst z; exact absurd (Heap.lt_size e) (Nat.not_lt.mpr hI0)) (keep b o e)) (dct_stable _ _ hD λ o e=>hm' d o hdI e) hK)))
  | succ m ih =>
    intro i h tk t es hm hi keep hit hil hD hK
    have hlt:i < kvs.length:=by omega
    refine codeAny_builtin entry_duloop ?_
    rw [Around.under_plainId plain_duloop _]
    show wpAny _ A.in1 (pyNext (.ref It)>>=λ _=>_) _ _ _
    refine wpAny_bind (W.item i { s0 with heap:=h,toks:=tk } _ _ (by rw [List.size_toArray,<- hlen]; exact hlt) ⟨hit,hil⟩ λ v s' hP hst hm=>?_)
    obtain ⟨h',g',d',tk',os'⟩:=s'
    have eg:g'=s0.gens:=hm.gens
    have ed:d'=s0.drawn:=hm.drawn
    have eo:os'=s0.os:=hm.os
    subst eg; subst ed; subst eo
    have hm':∀ b o,b≠It->h.get? b=some o->h'.get? b=some o:=λ b o nb e=>hm.heap b o (by simpa using nb) e
    have keep':∀ b o,s0.heap.get? b=some o->h'.get? b=some o:=λ b o e=>hm' b o (λ z=>by subst z; exact absurd (Heap.lt_size e) (Nat.not_lt.mpr hI0)) (keep b o e)
    have I':Inv X pins σ H { s0 with heap:=h',toks:=tk' }:=I0.kept keep'
    obtain ⟨hit',hil'⟩:h'.IsListIter It l (i + 1)/\h'.IsList l its.toArray:=hst
    -- the pair
    have e1:(kvs.map λ p=>D.tup [p.1,p.2])[i]?=some (D.tup [kvs[i].1,kvs[i].2]):=by rw [List.getElem?_map,List.getElem?_eq_getElem hlt]; rfl
    obtain ⟨x,ex,dx⟩:=hl.get e1
    obtain ⟨u,eu,ru⟩:=hv.get ex
    have:v=u:=by
      have q:its.toArray[i]?=some v:=hP
      rw [List.getElem?_toArray,eu] at q
      cases q; rfl
    subst this
    obtain ⟨a,ws,rfl,sq,lw⟩:=den_tup.mp dx
    obtain rfl:v=Value.ref a:=ru
    obtain ⟨v1,r1,rfl,d1,lw⟩:=denL_cons.mp lw
    obtain ⟨v2,r2,rfl,d2,lw⟩:=denL_cons.mp lw
    cases denL_nil.mp lw
    obtain ⟨ps,rps,tup,_⟩:=I'.tuple (Same.seqT g sq)
    obtain ⟨u1,u2,rfl,q1,q2⟩:=vals2 rps
    have hkk:hk 8 kvs[i].1=true:=hk8 _ (List.getElem_mem hlt)
    have hD':DctAt X.w d ((kvs.take i).foldl addK []) es h':=dct_stable _ _ hD λ o e=>hm' d o hdI e
    have hz':((kvs.take i).foldl addK []).length < 1000000:=by
      have:=addK_len (kvs.take i) []
      simp only [List.length_nil,List.length_take] at this
      omega
    show wpAny _ A.in1 (holding [Value.ref a] _>>=λ _=>_) _ _ _
    refine wpAny_bind (wpAny_holding (wpAny_bind (wpAny_tryCatch (pair_items tup ?_))))
    show wpAny _ A.in1 (holding [u1,u2] (dictSet d u1 u2)) _ _ _
    refine wpAny_holding (set_D (A:=A.in1) I' g hD' hK ⟨d1,q1,hkk⟩ (by show A.units + 1 + 20 < cLine; omega) hz' (dv:=kvs[i].2) q2 λ h2 tk2 hs2 hD2=>?_)
    refine wpAny_pure ⟨plainId_quiet plain_duloop _,?_⟩
    have et:(kvs.take (i + 1)).foldl addK []=putK kvs[i].1 kvs[i].2 ((kvs.take i).foldl addK []):=by
      rw [List.take_succ_eq_append_getElem hlt,List.foldl_append]
      rfl
    have oth:∀ b o,b≠d->h'.get? b=some o->h2.get? b=some o:=λ b o nb e=>by rw [hs2.2 b nb]; exact e
    refine ih (i + 1) h2 tk2 0 _ (by omega) hlt (λ b o e=>oth b o (λ z=>by subst z; exact absurd (Heap.lt_size e) (Nat.not_lt.mpr hd0)) (keep' b o e)) ?_ ?_ (by rw [et]; exact hD2) (by rw [et]; exact denK_put d1 d2 hK)
    · obtain ⟨o,ho,r⟩:=hit'
      exact ⟨o,oth It o (Ne.symm hdI) ho,r⟩
    · obtain ⟨o,ho,r⟩:=hil'
      exact ⟨o,oth l o (λ z=>by subst z; exact absurd hll (Nat.not_lt.mpr hd0)) ho,r⟩
theorem call_dictL (hc:X.calm=true) (hu:X.A.units + 150 < cLine):CallR X (.type "dict") (λ xs H Q=>∃ (G:Hp) (l:Addr) (kvs:List (D×D)) (vs:List V),xs=[.ref l]/\Same G H/\SqL X.K H l vs/\DenL X.K G (kvs.map λ p=>D.tup [p.1,p.2]) vs/\(∀ p∈kvs,hk 8 p.1=true)/\kvs.length < 1000000 /\
    ∀ p es,H p=none->DenK X.K G (mkK kvs) es->Q (.ref p) (upd H p (.ext (DctAt X.w p (mkK kvs) es)))):=by
  intro pins s σ H xs us Q I r h
  obtain ⟨G,l,kvs,vs,rfl,g,sq,dl,hk8,hz,q⟩:=h
  obtain ⟨u,rfl,ru⟩:=vals1 r
  obtain rfl:u=Value.ref l:=ru
  obtain ⟨its,rv,pl,hzl⟩:=I.list sq
  have hli:=pl.isList
  obtain ⟨ol,nl,hol,hcl,hdl,hdat⟩:=pl
  obtain ⟨oc,od,odt,osl⟩:=ol
  simp only at hcl hdl hdat
  subst hcl; subst hdl; subst hdat
  have hll:l < s.heap.objs.size:=Heap.lt_size hol
  have hh:X.A.handled=none:=I.ok.hd hc
  have hbig:=inv_big I
  have hnew:=dct_new (w:=X.w) (h:=s.heap) hbig
  refine callType_codes (Q₁:=λ obj s₁=>obj=.ref s.heap.objs.size/\s₁={ s with heap:=s.heap.push { cls:=.type "dict",data:=.dict #[] } }) PySem.F.kt_called_dict (PySem.F.kt_typeCall_dict_1 _) PySem.F.entry_dict_init (kt_code_dict_new _ ⟨rfl,rfl⟩) ?_
  rintro obj s1 ⟨rfl,rfl⟩
  have tyd:Shared.TypeIs { s with heap:=s.heap.push { cls:=.type "dict",data:=.dict #[] } } (.ref s.heap.objs.size) "dict":=⟨_,Heap.get?_push_size _ rfl,rfl⟩
  have hol1:=Heap.get?_push_of_some { cls:=.type "dict",data:=.dict #[] } hol
  have tyl:Shared.TypeIs { s with heap:=s.heap.push { cls:=.type "dict",data:=.dict #[] } } (.ref l) "list":=⟨_,hol1,rfl⟩
  refine ⟨tyd,PySem.F.args_dict_init_2 _ _,?_⟩
  unfold Builtin.«dict.__init__» Builtin.Dict.selfAndRest
  refine wpAny_bind (wpAny_bind (wpAny_notOrdered_dict tyd (wpAny_pure ?_)))
  show wpAny _ _ (Builtin.Dict.updateFrom "dict.__init__" s.heap.objs.size (.ref l) [] .none) _ _ _
  unfold Builtin.Dict.updateFrom
  refine wpAny_bind (wpAny_typeOf tyl ?_)
  refine wpAny_ite_split (λ _=>?_) λ z=>absurd (by decide) z
  refine wpAny_bind (keys_miss hol1 hh λ h1 tk1 keep1=>?_)
  refine wpAny_ite_split (λ _=>?_) λ z=>absurd rfl z
  refine wpAny_bind (wpAny_rule ?_)
  have hl2:h1.IsList l its.toArray:=⟨_,keep1 l _ hol1,rfl,_,rfl⟩
  refine wpAny_bind (wpAny_pyIter_list hl2 (wpAny_pure ⟨plainId_quiet plain_duloop _,?_⟩))
  have hsz:s.heap.objs.size < h1.objs.size:=Heap.lt_size (keep1 _ _ (Heap.get?_push_size _ rfl))
  refine dict_loop (A:=X.A.in1) (s0:=s) I g hh (by show X.A.units + 1 + 60 < cLine; omega) (d:=s.heap.objs.size) (It:=h1.objs.size) (l:=l) (its:=its) (kvs:=kvs) dl rv hk8 hz (Nat.le_refl _) (Nat.le_of_lt hsz) (Nat.ne_of_lt hsz) hll ?_ kvs.length 0 _ tk1 _ [] (by omega) (Nat.zero_le _) (λ b o e=>Heap.get?_push_of_some _ (keep1 b o (Heap.get?_push_of_some _ e))) ⟨_,Heap.get?_push_size _ rfl,rfl,rfl⟩ (hl2.push _) ?_ trivial
  · intro h' tk es keep hD hK
    refine ⟨rfl,.ref s.heap.objs.size,_,I.laid (a:=s.heap.objs.size) (t':=tk) keep (Nat.le_refl _) (dct_ok hD),rfl,q _ es (I.hok.fresh (Nat.le_refl _)) hK⟩
  · exact dct_stable _ _ hnew λ o e=>Heap.get?_push_of_some _ (keep1 _ o e)
end
end Wy


namespace Wy
open PySem PySem.Spec PyProof.Rows L2
noncomputable def unP:D->Option (D×D)
  | .tup [a,b]=>some (a,b)
  | _=>none
noncomputable def unPs:List D->Option (List (D×D))
  | []=>some []
  | d::ds=>(unP d).bind λ p=>(unPs ds).map (p::·)
theorem unP_eq {d:D} {p:D×D} (h:unP d=some p):d=.tup [p.1,p.2]:=by
  unfold unP at h
  split at h
  · cases h; rfl
  · cases h
theorem unPs_eq:∀ {ds:List D} {kvs:List (D×D)},unPs ds=some kvs->ds=kvs.map λ p=>D.tup [p.1,p.2]
  | [],kvs,h=>by cases h; rfl
  | d::ds,kvs,h=>by
    unfold unPs at h
    obtain ⟨p,e1,e2⟩:=Option.bind_eq_some_iff.mp h
    obtain ⟨r,e3,rfl⟩:=Option.map_eq_some_iff.mp e2
    rw [unP_eq e1,unPs_eq e3]
    rfl
theorem unPs_map:∀ (kvs:List (D×D)),unPs (kvs.map λ p=>D.tup [p.1,p.2])=some kvs
  | []=>rfl
  | p::kvs=>by
    rw [List.map_cons]
    unfold unPs
    rw [unPs_map kvs]
    rfl
noncomputable def pairsD (ds:List D):Option (List (D×D)):=(unPs ds).bind λ kvs=>if (kvs.all λ p=>hk 8 p.1)=true/\kvs.length < 1000000 then some (mkK kvs) else none
noncomputable def oDpairs (fs:Ga->R (Bool×List D)):Ga->R (List (D×D)):=λ Γ=>(fs Γ).bind λ p=>match p.1 with
  | true=>.no
  | false=>.ofO (pairsD p.2)
theorem boot_dict:bootBuiltins "dict"=some (.type "dict"):=by kernel_rfl
section
variable {X:Cx} {W:XP} {a b c e:Expr} {fa fb fc f:Ga->R D} {fs:Ga->R (Bool×List D)} {fd:Ga->R (List (D×D))} {pos pos' p2 apos cpos:Pos} {x:Str}
theorem od_pairs (hc:X.calm=true) (hu:X.A.units + 150 < cLine) (hg:Gl X "dict") (hm:X.mg "dict"=none) (ha:SqD X W e fs) (hs:starEach [e] X.env=[(false,eval e X.env)]:=by rfl) :
    OdD X W (.Call (.Name "dict" p2) [e] [] pos) (oDpairs fs):=by
  obtain ⟨t,p,q⟩:=ha
  refine ⟨_,pe_callTy (call_dictL hc hu) hg hm boot_dict (pa_cons p pa_nil hs) (by decide) (by decide) hs rfl,λ H₀ G₀ Γ σ H G R Q w=>?_⟩
  refine q _ _ _ _ _ _ R _ (wStep w (λ _ h=>h) λ pp w a vs H1 G1 E1 s1 l1=>?_)
  obtain ⟨bb,ds⟩:=pp
  cases bb with
  | true=>exact w.elim
  | false =>
    obtain ⟨kvs',e2,w2⟩:=wOfO w
    unfold pairsD at e2
    obtain ⟨kvs,e3,e4⟩:=Option.bind_eq_some_iff.mp e2
    split at e4
    · rename_i hz
      cases e4
      have:=unPs_eq e3
      subst this
      refine ⟨G1,a,kvs,vs,rfl,E1.gh,s1,l1,λ p hp=>?_,hz.2,λ p es hp hK=>?_⟩
      · exact List.all_eq_true.mp hz.1 p hp
      · have E2:=Ext.own E1.gh hp (.ext (DctAt X.w p (mkK kvs) es))
        exact w2 p es _ _ (E1.trans E2) (E1.hh.free hp) upd_same (E1.gh.free hp) hK
    · cases e4
end
end Wy


namespace Wy
open PySem PySem.Spec PyProof.Rows L2 PySem.W
section
variable {X:Cx} {pins:List (Addr×Obj)} {σ:L2.St} {H G:Hp} {s:Shared} {A:Around} {E:Value->Shared->Prop} {d:Addr}
end
section
variable {prog:Program} {w:World} {A:Around} {E:Value->Shared->Prop} {s:Shared} {T:String} {r d:Addr} {n:Nat} {P:Nat->Value->Prop} {OK:Heap->Prop}
end
section
variable {X:Cx} {W:XP} {e:Expr} {fd:Ga->R (List (D×D))} {pos p2:Pos}
end
end Wy


namespace Wy
open PySem PySem.Spec PyProof.Rows L2
section
variable {X:Cx} {W:XP} {a b c e:Expr} {fa fb fc f:Ga->R D} {fm fm2:Ga->R (D×Ga)} {fd:Ga->R (List (D×D))} {pos pos' p2 apos cpos:Pos} {x:Str}
end
end Wy


namespace Wy
open PySem PySem.Spec PyProof.Rows L2
section
variable {X:Cx} {scope:Scope} {cl:List (Str×Addr)} {x x2 y:Str} {px px2 py pos spos tpos:Pos} {tk:Nat} {elt iter:Expr} {ifs:List Expr} {c:Ga->R Bool} {f:Ga->R D} {fl:Ga->R (List D)}
theorem x_setComp2 {W:XP} (i:Nat) (B:BlkOk2 X scope cl x x2) (hcalm:X.calm=true) (hi:ItD X W (.Tuple [.Name x px,.Name x2 px2] tk tpos) iter fl) (hT:∀ C s H fp,TsD (blk2 X scope cl C x x2 s H fp) ifs c) (hE:∀ C s H fp,EvD (blk2 X scope cl C x x2 s H fp) XP0 elt f)
    (hN:X.N.Nodup) (hy:X.N[i]?=some y:=by rfl) (hx:Loc X.env.scope y:=by first | exact Or.inl rfl | exact Or.inr rfl)
    (hsw:swapsWith (.ListComp elt [⟨.Tuple [.Name x px,.Name x2 px2] tk tpos,iter,ifs,0⟩] scope pos) (some (.Name y py)) spos.line X.env=pure true:=by rfl)
    (hf':X.fn y=true∨X.env.scope.names.lookup y=some .local:=by first | exact .inl rfl | exact .inr rfl | assumption)
    (hs:∀ x,foldedSetIterable iter X.env x=pure x:=by intro _; rfl):ExD X W (.Assign [.Name y py] (.ListComp elt [⟨.Tuple [.Name x px,.Name x2 px2] tk tpos,iter,ifs,0⟩] scope pos) spos) (sSetO i (cpR2 fl c f)):=by
  obtain ⟨wi,pI,qI⟩:=hi
  refine ⟨λ DD σ H=>∃ (H₀ G₀:Hp) (Γ:Ga) (G:Hp),Rep X.K H₀ G₀ Γ σ H G/\(cpR2 fl c f Γ).want (exAt W σ H G) λ outs=>∀ p vs H' G',Ext H G H' G'->H p=none->H' p=some (.lst vs)->G' p=none->DenL X.K G' outs vs->DD.nx (σ.set i (some (.ref p))) H',?_,?_⟩
  · rintro pins s σ H D I ⟨H₀,G₀,Γ,G,R,w⟩
    rw [exec_Assign_Name_used _ _ _ _ hsw]
    refine wpAny_bind (wpAny_standAt (wpAny_bind ?_))
    show wpAny _ X.A (do let _ <- comprehension (.ListComp elt [⟨.Tuple [.Name x px,.Name x2 px2] tk tpos,iter,ifs,0⟩] scope pos) scope X.env _ (newList []) false (eval iter X.env) (some (assign (.Name y py) X.env))) _ _ s
    refine wpAny_bind (wpAny_mono (wpAny_comprehension_free (use:=some (assign (.Name y py) X.env)) (Q:=λ _ s'=>SP X pins D .next s') rfl hs B.clos B.kind B.names ?_) (λ _ s' hq=>wpAny_pure (wpAny_pure hq)) λ _ _ e=>e)
    have h1:=pI pins s σ H (λ J H'=>∃ G' ds outs,Ext H G H' G'/\Yields X.K J G' ds/\ds.length < 16000000/\compR2 c f Γ ds=.ok outs/\∀ p vs H' G',Ext H G H' G'->H p=none->H' p=some (.lst vs)->G' p=none->DenL X.K G' outs vs->D.nx (σ.set i (some (.ref p))) H') I
      (qI _ _ _ _ _ _ R _ (wStep w (λ _ h=>h) λ ds w J H' G' E1 y=>let ⟨outs,hl,e2,k⟩:=cp_want2 w; ⟨G',ds,outs,E1,y,hl,e2,k⟩))
    refine thn h1 λ xv s1 h1=>thn h1 λ itv s2 ⟨it,fp,tn,J,H2,e,I2,T,st,hf,G2,ds,outs,E2,y2,hl,e2,k⟩=>?_
    subst e
    refine comp_core2 (RR:=λ acc C=>compPost (model X.prog X.w) X.A X.xe (some (assign (.Name y py) X.env)) (λ _ s'=>SP X pins D .next s') acc C) B hcalm I2 (R.after E2) T st hf y2 (λ C=>hT _ _ _ _) (λ C=>hE _ _ _ _) e2 hl ?_
    intro Dd C s' H' G' vs m os bare un hok hC hCn hns E' hp h' g' l
    have I3:=after_block I2 hf os bare un hok
    show wpAny _ X.A (assign (.Name y py) X.env (.ref Dd)) _ _ _
    refine wpAny_assign_Name (store_ok2 (v:=.ref Dd) I3 hN hy hx rfl (λ s4 I4 ⟨a,hsa,ha⟩=>?_) hf')
    have nC:C≠a:=λ z=>by
      subst z
      rcases ha with z | z
      · exact absurd (Nat.lt_of_lt_of_le I2.lt (by rw [<- z]; exact hC)) (Nat.lt_irrefl _)
      · obtain ⟨v,q⟩:=I2.cell y _ z
        exact absurd (Nat.lt_of_lt_of_le q.lt hC) (Nat.lt_irrefl _)
    refine ⟨m,hns.sameBut hsa nC,λ h'' hsb=>?_⟩
    exact ⟨_,H',turned_C I2 I4 hC hCn hsb,k Dd vs H' G' (E2.trans E') (E2.hh.free hp) h' g' l⟩
  · intro H₀ G₀ Γ σ H G R D w
    refine ⟨H₀,G₀,Γ,G,R,wS R w λ outs w p vs H' G' E1 hp h' g' l=>?_⟩
    exact w _ H' G' ((R.after E1).setO i h' (R.ex.hh.free hp) g' l λ j ys hj hy=>own_new R hp j ys hy)
end
end Wy


namespace Pg
open PySem PySem.Spec PyProof.Rows L2 Wy Wl Lw
noncomputable abbrev N_q10:List Str:=["row","places"]
noncomputable def B_q10 (ww:World):Ga->RS:=(sRet (eS tupS (sO (oSortSet (sO (cpR (iT (eV 0)) (tB (eInD false (eV 0) (dV ww 3))) (eIxD (dV ww 3) (eV 0))))))))
noncomputable def M_q10:List D->R D:=λ ds=>parW λ ww=>callK ww [false,true] N_q10 (B_q10 ww) ds
noncomputable abbrev N_q3:List Str:=["world","places"]
noncomputable def B_q3 (ww:World) (M_q10:List D->R D):Ga->RS:=(sRet (eTup (aCons (e2 ixD (eV 0) (eC (.int 0))) (aCons (eS tupS (sO (cpR (iT (e2 ixD (eV 0) (eC (.int 1)))) cTrue (eCall M_q10 (aCons (eV 0) (aDic (dV ww 3) aNil)))))) aNil))))
noncomputable def M_q3:List D->R D:=λ ds=>parW λ ww=>callK ww [false,true] N_q3 (B_q3 ww M_q10) ds
noncomputable abbrev N_q22:List Str:=["yard","kept","places"]
noncomputable def B_q22 (ww:World) (M_q3:List D->R D):Ga->RS:=(sRet (eS tupS (sO (cpR (iL (eV 1)) cTrue (eCall M_q3 (aCons (e2 ixD (eV 2) (eV 0)) (aDic (dV ww 4) aNil)))))))
noncomputable def M_q22:List D->R D:=λ ds=>parW λ ww=>callK ww [false,false,true] N_q22 (B_q22 ww M_q3) ds
noncomputable abbrev N_q0:List Str:=["yard","kept","places"]
noncomputable def B_q0 (ww:World) (M_q22:List D->R D):Ga->RS:=(sSeq (sSetD ww 2 (oDpairs (sO (cpR2 (iE (eV 1)) cTrue (eTup (aCons (eV 1) (aCons (eV 0) aNil))))))) (sRet (eCall M_q22 (aCons (eV 0) (aCons (eV 1) (aDic (dV ww 2) aNil))))))
noncomputable def M_q0:List D->R D:=λ ds=>parW λ ww=>callR N_q0 (B_q0 ww M_q22) ds
noncomputable abbrev N_q6:List Str:=["yard","saying","kept"]
noncomputable def B_q6 (M_q18:List D->R D) (M_q0:List D->R D):Ga->RS:=(sSeq (sSet 2 (eO (cpR2 (iE (eCall M_q18 (aCons (eV 0) (aCons (eV 1) aNil)))) (tTru (eV 1)) (eV 0)))) (sSeq (sIf (tB (e2 eqD (eB lenD (aCons (eV 2) aNil)) (eC (.int 0)))) (sRaise "NoWorld" (aCons (eC (.str "the saying holds in no world of the yard")) aNil)) sNext) (sRet (eCall M_q0 (aCons (eV 0) (aCons (eV 2) aNil))))))
noncomputable def M_q6:List D->R D:=λ ds=>callR N_q6 (B_q6 M_q18 M_q0) ds
end Pg


namespace Pg
open PySem PySem.Spec PyProof.Rows L2 Wy Wl Lw
end Pg

set_option maxHeartbeats 4000000
namespace Wy
open PySem PySem.Spec PyProof.Rows L2
section
variable {X:Cx} {pins:List (Addr×Obj)} {σ:L2.St} {H G:Hp} {s:Shared} {a kS f:Addr} {kz:List Int} {vs:List Value} {e1 n:Nat} {A:Around} {P:PySem.Fin->Shared->Prop} {E:Value->Shared->Prop}
end
end Wy

set_option maxHeartbeats 4000000
namespace Wy
open PySem PySem.Spec PyProof.Rows L2
section
variable {X:Cx} {pins:List (Addr×Obj)} {σ:L2.St} {H G:Hp} {s:Shared} {a kS f:Addr} {kz:List Int} {vs:List Value} {e1 n:Nat} {A:Around} {P:PySem.Fin->Shared->Prop} {E:Value->Shared->Prop}
end
end Wy

namespace Wy
open PySem PySem.Spec PyProof.Rows L2
section
variable {X:Cx} {W:XP}
end
end Wy


namespace Pg
open PySem PySem.Spec PyProof.Rows L2 Wy Wl Lw
end Pg


namespace Wl
open PySem
end Wl


namespace Wl
open PySem
end Wl


namespace Wl
section
variable {α:Type} [DecidableEq α]
end
noncomputable def mxN (l:List Nat):Nat:=l.foldr max 0
theorem le_mx:∀ {l:List Nat} {x:Nat},x∈l->x<=mxN l
  | a::l,x,h=>by
    rcases List.mem_cons.mp h with rfl | h
    · exact Nat.le_max_left _ _
    · exact Nat.le_trans (le_mx h) (Nat.le_max_right _ _)
noncomputable def srtN (l:List Nat):List Nat:=(List.range (mxN l + 1)).filter λ x=>decide (x∈l)
theorem mem_srtN {l:List Nat} {x:Nat}:x∈srtN l↔x∈l:=by
  unfold srtN
  rw [List.mem_filter,List.mem_range]
  constructor
  · rintro ⟨_,h⟩; exact of_decide_eq_true h
  · intro h; exact ⟨Nat.lt_succ_of_le (le_mx h),decide_eq_true h⟩
theorem srtN_rise (l:List Nat):(srtN l).Pairwise (· < ·):=List.Pairwise.filter _ List.pairwise_lt_range
theorem rise_ext:∀ {a b:List Nat},a.Pairwise (· < ·)->b.Pairwise (· < ·)->(∀ x,x∈a↔x∈b)->a=b
  | [],[],_,_,_=>rfl
  | [],y::b,_,_,h=>absurd ((h y).mpr List.mem_cons_self) (by simp)
  | x::a,[],_,_,h=>absurd ((h x).mp List.mem_cons_self) (by simp)
  | x::a,y::b,ha,hb,h=>by
    rw [List.pairwise_cons] at ha hb
    have e:x=y:=by
      rcases List.mem_cons.mp ((h x).mp List.mem_cons_self) with e | e
      · exact e
      · rcases List.mem_cons.mp ((h y).mpr List.mem_cons_self) with e' | e'
        · exact e'.symm
        · have:=ha.1 y e'; have:=hb.1 x e; omega
    subst e
    rw [rise_ext ha.2 hb.2 λ z=>?_]
    have hz:=h z
    constructor
    · intro m
      rcases List.mem_cons.mp (hz.mp (List.mem_cons_of_mem _ m)) with rfl | q
      · exact absurd (ha.1 z m) (Nat.lt_irrefl _)
      · exact q
    · intro m
      rcases List.mem_cons.mp (hz.mpr (List.mem_cons_of_mem _ m)) with rfl | q
      · exact absurd (hb.1 z m) (Nat.lt_irrefl _)
      · exact q
theorem srtN_self {a:List Nat} (h:a.Pairwise (· < ·)):srtN a=a:=rise_ext (srtN_rise a) h λ _=>mem_srtN
section
variable {β:Type} [DecidableEq β] (N:List β) (ch:Nat->Nat->List Nat)
variable {N ch}
variable (hch:∀ i k,i < N.length->∀ v∈ch i k,v < N.length)
include hch
end
end Wl


namespace Wl
section
variable (nx:Nat->List Nat)
variable {nx}
theorem nodup_lt_len:∀ (n:Nat) (F:List Nat),F.Nodup->(∀ v∈F,v < n)->F.length<=n
  | 0,[],_,_=>Nat.le_refl _
  | 0,x::F,_,h=>absurd (h x List.mem_cons_self) (Nat.not_lt_zero _)
  | n + 1,F,hn,h=>by
    by_cases q:n∈F
    · have:=nodup_lt_len n (F.erase n) (hn.erase n) λ v hv=>by
        have a:=(hn.mem_erase_iff).mp hv
        have b:=h v a.2
        omega
      rw [List.length_erase_of_mem q] at this
      omega
    · exact Nat.le_succ_of_le (nodup_lt_len n F hn λ v hv=>by
        have b:=h v hv
        have:v≠n:=λ e=>q (e ▸ hv)
        omega)
section
variable {rows:Nat->List (List Nat)} (hnx:∀ k v,v∈nx k↔∃ r∈rows k,v∈r)
end
end
end Wl


namespace Wy
open PySem PySem.Spec PyProof.Rows L2
section
variable {w:World} {bs:List Bool} {N:List Str} {Γ:Ga} {fa fb fk fv f:Ga->R D} {fd:Ga->R (List (D×D))} {fl:Ga->R (List D)} {fs:Ga->R (Bool×List D)} {kvs:List (D×D)} {sl:Sl} {n:Nat} {b:Bool} {d:D} {ds:List D} {fm fm2:Ga->R (D×Ga)}
@[simp] theorem callK_eq (S:Ga->RS):callK w bs N S ds=(S (beginK w bs N ds)).fin:=by unfold callK; cases S (beginK w bs N ds) <;> rfl
@[simp] theorem beginK_eq:beginK w bs N ds=begK w bs ds++List.replicate (N.length - ds.length) Sl.un:=nr rfl
@[simp] theorem begK_t:begK w (true::bs) (d::ds)=.vdi w (decK d)::begK w bs ds:=nr rfl
@[simp] theorem begK_f:begK w (false::bs) (d::ds)=.val d::begK w bs ds:=nr rfl
@[simp] theorem begK_n:begK w [] []=[]:=nr rfl
@[simp] theorem dV_zd:dV w 0 (.dic w kvs::Γ)=.ok kvs:=dV_dic rfl
@[simp] theorem dV_succ:dV w (n + 1) (sl::Γ)=dV w n Γ:=by simp [dV]
@[simp] theorem eInD_eq:eInD b fk fd Γ=(fk Γ).bind λ k=>(fd Γ).bind λ kvs=>inK b k kvs:=nr rfl
@[simp] theorem eIxD_eq:eIxD fd fk Γ=(fd Γ).bind λ kvs=>(fk Γ).bind λ k=>getK k kvs:=nr rfl
@[simp] theorem inK_int {i:Int}:inK b (.int i) kvs=.ok (.bl (b != (kIx (.int i) kvs).isSome)):=if_pos (by unfold hk; rfl)
@[simp] theorem getK_int {i:Int}:getK (.int i) kvs=.ofO ((kIx (.int i) kvs).bind λ j=>kvs[j]?.map (·.2)):=if_pos (by unfold hk; rfl)
@[simp] theorem aDic_eq:aDic fd fl Γ=(fd Γ).bind λ kvs=>(fl Γ).bind λ r=>.ok (encK kvs::r):=nr rfl
@[simp] theorem decK_enc:decK (encK kvs)=kvs:=decK_encK kvs
@[simp] theorem sSetD_eq:sSetD w n fd Γ=.of (fd Γ) Γ λ kvs=>.nx (Γ.set n (.dic w kvs)):=nr rfl
@[simp] theorem oSortSet_eq:oSortSet fs Γ=(fs Γ).bind λ p=>.ofO (sortSetD p.2):=nr rfl
end
noncomputable abbrev iN:Nat->D:=λ n=>D.int (n:Int)
end Wy
namespace Wl
open PySem Wy
noncomputable def toI (l:List Nat):List Int:=l.map λ (n:Nat)=>(n:Int)
theorem toI_map (l:List Nat):l.map iN=(toI l).map D.int:=by unfold toI; rw [List.map_map]; rfl
theorem toI_rise {l:List Nat} (h:l.Pairwise (· < ·)):(toI l).Pairwise (·<=·):=by
  unfold toI
  rw [List.pairwise_map]
  exact h.imp λ hab=>by omega
theorem toI_nodup {l:List Nat} (h:l.Nodup):(toI l).Nodup:=by
  unfold toI List.Nodup
  rw [List.pairwise_map]
  exact h.imp λ hab e=>hab (by omega)
theorem rise_nodup {l:List Nat} (h:l.Pairwise (· < ·)):l.Nodup:=h.imp λ hab e=>by omega
theorem mem_toI {l:List Nat} {k:Int}:k∈toI l↔∃ n∈l,(n:Int)=k:=by unfold toI; simp
theorem srt_nat {l m:List Nat} (hm:m.Pairwise (· < ·)) (h:∀ x,x∈m↔x∈l):srt (ded (toI l))=toI m:=by
  have p:(toI m).Perm (ded (toI l)):=ded_perm (toI_nodup (rise_nodup hm)) λ k=>by
    rw [mem_toI,mem_toI]
    exact ⟨λ ⟨n,h1,h2⟩=>⟨n,(h n).mp h1,h2⟩,λ ⟨n,h1,h2⟩=>⟨n,(h n).mpr h1,h2⟩⟩
  exact (srt_uniq p (toI_rise hm)).symm
theorem sortSet_nat (l:List Nat) (h:l.length < 64):sortSetD (l.map iN)=some ((srtN l).map iN):=by
  unfold sortSetD
  rw [toI_map,asIs_map]
  dsimp only
  rw [if_pos (by unfold toI; simpa using h),srt_nat (srtN_rise l) λ x=>mem_srtN,toI_map]
structure Pl (kvs:List (D×D)) (pl:Nat->Option Nat):Prop where
  at_:∀ v:Nat,(kIx (.int (v:Int)) kvs).isSome=(pl v).isSome/\((kIx (.int (v:Int)) kvs).bind λ j=>kvs[j]?.map (·.2))=(pl v).map iN
noncomputable def movW (Y:List Wd) (pl:Nat->Option Nat) (n:Nat):Wd:=((wdAt Y n).1,(wdAt Y n).2.map λ r=>srtN (r.filterMap pl))
noncomputable def movY (Y:List Wd) (pl:Nat->Option Nat) (kept:List Nat):List Wd:=kept.map (movW Y pl)
end Wl


namespace Pg
open PySem PySem.Spec PyProof.Rows L2 Wy Wl Lw
theorem parW_is {g:World->R D} {r:R D} (h:∀ w,g w=r):parW g=r:=parW_eq h (Classical.choice world_any)
theorem filterMap_of {pl:Nat->Option Nat} (r:List Nat):(r.filter λ v=>(pl v).isSome).map (λ v=>iN ((pl v).getD 0))=(r.filterMap pl).map iN:=by
  induction r with
  | nil=>rfl
  | cons a r ih =>
    cases e:pl a with
    | none=>simp [e,ih]
    | some b=>simp [e,ih]
theorem m_q10 {kvs:List (D×D)} {pl:Nat->Option Nat} (P:Pl kvs pl) (r:List Nat) (h:r.length < 64):M_q10 [dRow r,encK kvs]=.ok (dRow (srtN (r.filterMap pl))):=by
  refine parW_is λ w=>?_
  have c:∀ (Γ:Ga),Γ[1]?=some (.vdi w kvs)->compR (tB (eInD false (eV 0) (dV w 3))) (eIxD (dV w 3) (eV 0)) Γ (r.map iN)=.ok ((r.filterMap pl).map iN):=by
    intro Γ hΓ
    have d3:∀ d:D,dV w 3 (.val d::.un::Γ)=.ok kvs:=λ d=>dV_vdi (by simpa using hΓ)
    have:=compR_filter (c:=tB (eInD false (eV 0) (dV w 3))) (f:=eIxD (dV w 3) (eV 0)) (Γ:=Γ) (p:=λ d=>match d with | .int i=>(pl i.toNat).isSome | _=>false) (h:=λ d=>match d with | .int i=>iN ((pl i.toNat).getD 0) | _=>.non) (ds:=r.map iN) ?_ ?_
    · rw [this,<- filterMap_of,List.filter_map,List.map_map]
      rfl
    · intro d hd
      obtain ⟨v,hv,rfl⟩:=List.mem_map.mp hd
      have:=(P.at_ v).1
      simp [d3,this]
    · intro d hd hp
      obtain ⟨v,hv,rfl⟩:=List.mem_map.mp hd
      have:=(P.at_ v).2
      have hp':(pl v).isSome=true:=by simpa using hp
      obtain ⟨p,ep⟩:=Option.isSome_iff_exists.mp hp'
      simp [d3,this,ep]
  have c':=c [.val (dRow r),.vdi w kvs] rfl
  have hl:(r.filterMap pl).length < 64:=Nat.lt_of_le_of_lt (List.length_filterMap_le _ _) h
  have s:=sortSet_nat (r.filterMap pl) hl
  have hr:r.length < 16000000:=by omega
  simp [B_q10,dRow] at c' ⊢
  simp [dRow,c',s,hr]
theorem m_q3 {Y:List Wd} (hY:YOk Y) (hl:Y.length < 64) {kvs:List (D×D)} {pl:Nat->Option Nat} (P:Pl kvs pl) {n:Nat} (hn:n < Y.length):M_q3 [dWd (wdAt Y n),encK kvs]=.ok (dWd (movW Y pl n)):=by
  refine parW_is λ w=>?_
  have h3:=hY.three _ (wdAt_mem hn)
  have hrow:∀ r∈(wdAt Y n).2,r.length < 64:=λ r hr=>by
    have h1:=hY.rise _ (wdAt_mem hn) r hr
    have h2:=hY.there _ (wdAt_mem hn) r hr
    have:=rise_len h1 λ v hv=>⟨Nat.zero_le v,h2 v hv⟩
    omega
  have c:∀ (Γ:Ga),Γ[1]?=some (.vdi w kvs)->Γ[0]?=some (.val (dWd (wdAt Y n)))->cpR (iT (e2 ixD (eV 0) (eC (.int 1)))) cTrue (eCall M_q10 (aCons (eV 0) (aDic (dV w 3) aNil))) Γ=.ok ((movW Y pl n).2.map dRow):=by
    intro Γ h1 h0
    have d3:∀ d:D,dV w 3 (.val d::.un::Γ)=.ok kvs:=λ d=>dV_vdi (by simpa using h1)
    have v0:eV 0 Γ=.ok (dWd (wdAt Y n)):=by unfold eV; rw [h0]
    have:=cp_of (it:=iT (e2 ixD (eV 0) (eC (.int 1)))) (f:=eCall M_q10 (aCons (eV 0) (aDic (dV w 3) aNil))) (Γ:=Γ) (l:=(wdAt Y n).2) (g:=dRow) (h:=λ r=>dRow (srtN (r.filterMap pl))) ?_ (by omega) ?_
    · rw [this]; unfold movW; rw [List.map_map]; rfl
    · have i1:ixD (dWd (wdAt Y n)) (.int 1)=some (dWays (wdAt Y n).2):=rfl
      simp [v0,i1,dWays]
    · intro r hr
      have:=m_q10 P r (hrow r hr)
      simp [d3,this]
  have c':=c [.val (dWd (wdAt Y n)),.vdi w kvs] rfl rfl
  have e1:dWd (movW Y pl n)=.tup [dNames (wdAt Y n).1,.tup ((movW Y pl n).2.map dRow)]:=rfl
  rw [e1]
  simp [-cpR_eq,B_q3,c']
theorem m_q22 {Y:List Wd} (hY:YOk Y) (hl:Y.length < 64) {kvs:List (D×D)} {pl:Nat->Option Nat} (P:Pl kvs pl) {kept:List Nat} (hk:∀ n∈kept,n < Y.length) (hkl:kept.length < 16000000):M_q22 [dYd Y,.lst (kept.map iN),encK kvs]=.ok (dYd (movY Y pl kept)):=by
  refine parW_is λ w=>?_
  have c:∀ (Γ:Ga),Γ[2]?=some (.vdi w kvs)->Γ[0]?=some (.val (dYd Y))->Γ[1]?=some (.val (.lst (kept.map iN)))->cpR (iL (eV 1)) cTrue (eCall M_q3 (aCons (e2 ixD (eV 2) (eV 0)) (aDic (dV w 4) aNil))) Γ=.ok (kept.map λ n=>dWd (movW Y pl n)):=by
    intro Γ h2 h0 h1
    have d3:∀ d:D,dV w 4 (.val d::.un::Γ)=.ok kvs:=λ d=>dV_vdi (by simpa using h2)
    have v0:∀ d:D,eV 2 (.val d::.un::Γ)=.ok (dYd Y):=λ d=>by unfold eV; simp [h0]
    have v1:eV 1 Γ=.ok (.lst (kept.map iN)):=by unfold eV; rw [h1]
    refine cp_of (l:=kept) (g:=iN) (h:=λ n=>dWd (movW Y pl n)) ?_ hkl ?_
    · simp [v1]
    · intro n hn
      have hn':=hk n hn
      have:=m_q3 hY hl P hn'
      have hat:ixD (dYd Y) (.int (n:Int))=some (dWd (wdAt Y n)):=by
        rw [show dYd Y=.tup (Y.map dWd) from rfl,ixD_tup]
        exact atI_nat (by rw [List.getElem?_map,wdAt_get hn']; rfl)
      simp [d3,v0,hat,this]
  have c':=c [.val (dYd Y),.val (.lst (kept.map iN)),.vdi w kvs] rfl rfl rfl
  have e1:dYd (movY Y pl kept)=.tup (kept.map λ n=>dWd (movW Y pl n)):=by unfold dYd movY; rw [List.map_map]; rfl
  rw [e1]
  simp [-cpR_eq,B_q22,c']
noncomputable def pairsK (kept:List Nat):List (D×D):=(List.range kept.length).map λ i=>(iN (kept.getD i 0),iN i)
noncomputable def idxO (kept:List Nat) (v:Nat):Option Nat:=kept.findIdx? λ x=>decide (x=v)
theorem foldK_new:∀ (l acc:List (D×D)),((acc++l).map (·.1)).Nodup->(∀ p∈acc++l,hk 8 p.1=true)->l.foldl addK acc=acc++l
  | [],acc,_,_=>by simp
  | p::l,acc,hn,hh=>by
    have e:addK acc p=acc++[p]:=by
      unfold addK putK
      have:kIx p.1 acc=none:=by
        unfold kIx
        refine List.findIdx?_eq_none_iff.mpr λ q hq=>?_
        cases z:eqDD q.1 p.1 with
        | false=>rfl
        | true =>
          have:=hk_eq 8 8 _ _ (hh q (List.mem_append_left _ hq)) (hh p (by simp)) z
          rw [List.map_append,List.nodup_append] at hn
          exact absurd this (hn.2.2 q.1 (List.mem_map.mpr ⟨q,hq,rfl⟩) p.1 (by simp))
      rw [this]
    rw [List.foldl_cons,e,foldK_new l (acc++[p]) (by simpa using hn) (by simpa using hh)]
    simp
theorem mkK_new {l:List (D×D)} (hn:(l.map (·.1)).Nodup) (hh:∀ p∈l,hk 8 p.1=true):mkK l=l:=by
  unfold mkK
  rw [foldK_new l [] (by simpa using hn) (by simpa using hh)]
  rfl
theorem hk_int (i:Int):hk 8 (.int i)=true:=by unfold hk; rfl
theorem pairsK_keys (kept:List Nat):(pairsK kept).map (·.1)=kept.map iN:=by
  unfold pairsK
  rw [List.map_map]
  apply List.ext_getElem
  · simp
  · intro i h1 h2
    simp at h1
    simp [List.getD_eq_getElem?_getD,h1]
theorem iN_inj {a b:Nat} (h:iN a=iN b):a=b:=by
  have:(a:Int)=(b:Int):=by injection h
  omega
theorem mk_pairs {kept:List Nat} (h:kept.Nodup):mkK (pairsK kept)=pairsK kept:=by
  refine mkK_new ?_ λ p hp=>?_
  · rw [pairsK_keys]
    unfold List.Nodup
    rw [List.pairwise_map]
    exact h.imp λ hab e=>hab (iN_inj e)
  · obtain ⟨i,_,rfl⟩:=List.mem_map.mp hp
    exact hk_int _
theorem kIx_pairs (kept:List Nat) (v:Nat):kIx (iN v) (pairsK kept)=idxO kept v:=by
  have:∀ (l:List (D×D)),l.findIdx? (λ p=>eqDD p.1 (iN v))=(l.map (·.1)).findIdx? λ d=>eqDD d (iN v):=λ l=>by
    rw [List.findIdx?_map]
    rfl
  unfold kIx idxO
  rw [this,pairsK_keys,List.findIdx?_map]
  congr 1
  funext x
  simp only [Function.comp,eqDD_int]
  rw [decide_eq_decide]
  omega
theorem pl_pairs (kept:List Nat):Pl (pairsK kept) (idxO kept) where
  at_:=λ v=>by
    have e:=kIx_pairs kept v
    refine ⟨by rw [e],?_⟩
    rw [e]
    cases z:idxO kept v with
    | none=>rfl
    | some j =>
      have hj:j < kept.length:=by unfold idxO at z; exact (List.findIdx?_eq_some_iff_getElem.mp z).1
      simp [pairsK,hj]
noncomputable def numY (Y:List Wd) (kept:List Nat):List Wd:=movY Y (idxO kept) kept
theorem m_numbered {Y:List Wd} (hY:YOk Y) (hl:Y.length < 64) {kept:List Nat} (hk:∀ n∈kept,n < Y.length) (hn:kept.Nodup):M_q0 [dYd Y,.lst (kept.map iN)]=.ok (dYd (numY Y kept)):=by
  refine parW_is λ w=>?_
  have hkl:kept.length<=Y.length:=nodup_lt_len _ _ hn hk
  have c:cpR2 (iE (eV 1)) cTrue (eTup (aCons (eV 1) (aCons (eV 0) aNil))) [.val (dYd Y),.val (.lst (kept.map iN)),.un]=.ok ((pairsK kept).map λ p=>D.tup [p.1,p.2]):=by
    have:=cp2_of (it:=iE (eV 1)) (f:=eTup (aCons (eV 1) (aCons (eV 0) aNil))) (Γ:=[.val (dYd Y),.val (.lst (kept.map iN)),.un]) (l:=List.range kept.length) (g1:=iN) (g2:=λ i=>iN (kept.getD i 0)) (h:=λ i=>D.tup [iN (kept.getD i 0),iN i]) ?_ (by simp; omega) ?_
    · rw [this]; unfold pairsK; rw [List.map_map]; rfl
    · simp only [iE_eq]
      rw [show eV 1 [.val (dYd Y),.val (.lst (kept.map iN)),.un]=.ok (.lst (kept.map iN)) from rfl,R.bind_ok,enumD_lst]
      unfold enumL
      rw [List.length_map]
      show R.ok _=R.ok _
      congr 1
      refine List.map_congr_left λ i hi=>?_
      have hi':=List.mem_range.mp hi
      simp [List.getD_eq_getElem?_getD,hi']
    · intro i hi
      simp
  have e1:pairsD ((pairsK kept).map λ p=>D.tup [p.1,p.2])=some (pairsK kept):=by
    unfold pairsD
    rw [unPs_map]
    show (if _ then _ else _)=_
    rw [if_pos ⟨List.all_eq_true.mpr λ p hp=>by
      obtain ⟨i,_,rfl⟩:=List.mem_map.mp hp
      exact hk_int _,by unfold pairsK; simp; omega⟩,mk_pairs hn]
  have e2:oDpairs (sO (cpR2 (iE (eV 1)) cTrue (eTup (aCons (eV 1) (aCons (eV 0) aNil))))) [.val (dYd Y),.val (.lst (kept.map iN)),.un]=.ok (pairsK kept):=by
    unfold oDpairs
    rw [sO_eq,c]
    show R.ofO (pairsD _)=_
    rw [e1]
    rfl
  have e3:=m_q22 hY hl (pl_pairs kept) hk (by omega)
  unfold numY
  simp [B_q0,begin_,e2,e3]
theorem cp2_filter {α:Type} {it:Ga->R (List D)} {c:Ga->R Bool} {f:Ga->R D} {Γ:Ga} {g1 g2 h:α->D} {p:α->Bool}:∀ {l:List α},it Γ=.ok (l.map λ a=>D.tup [g1 a,g2 a])->l.length < 16000000 ->
    (∀ a∈l,c (.val (g1 a)::.val (g2 a)::.un::Γ)=.ok (p a))->(∀ a∈l,p a=true->f (.val (g1 a)::.val (g2 a)::.un::Γ)=.ok (h a))->cpR2 it c f Γ=.ok ((l.filter p).map h):=by
  intro l h1 h2 h3 h4
  have main:∀ l:List α,(∀ a∈l,c (.val (g1 a)::.val (g2 a)::.un::Γ)=.ok (p a))->(∀ a∈l,p a=true->f (.val (g1 a)::.val (g2 a)::.un::Γ)=.ok (h a))->compR2 c f Γ (l.map λ a=>D.tup [g1 a,g2 a])=.ok ((l.filter p).map h):=by
    intro l
    induction l with
    | nil=>intro _ _; rfl
    | cons a l ih =>
      intro q1 q2
      have:=ih (λ b hb=>q1 b (List.mem_cons_of_mem _ hb)) (λ b hb=>q2 b (List.mem_cons_of_mem _ hb))
      have q1a:=q1 a List.mem_cons_self
      rw [List.map_cons,compR2]
      cases hp:p a with
      | true =>
        have q2a:=q2 a List.mem_cons_self hp
        rw [hp] at q1a
        simp [Wy.pairD,q1a,q2a,this,hp]
      | false =>
        rw [hp] at q1a
        simp [Wy.pairD,q1a,this,hp]
  unfold cpR2
  rw [h1]
  show (if _ then _ else _)=_
  rw [if_pos (by simpa using h2),main l h3 h4]
noncomputable def keptA (Y:List Wd) (s:Say):List Nat:=(List.range Y.length).filter (sat Y s)
theorem m_told {Y:List Wd} (hY:YOk Y) (hl:Y.length < 64) (s:Say) (ho:okS s=true) (hs:sizeS s<=100000) :
    M_q6 [dYd Y,dS s]=if keptA Y s=[] then .ex "NoWorld" else .ok (dYd (numY Y (keptA Y s))):=by
  have e1:=m_q18 hY (by omega) s ho hs
  have c:cpR2 (iE (eCall M_q18 (aCons (eV 0) (aCons (eV 1) aNil)))) (tTru (eV 1)) (eV 0) [.val (dYd Y),.val (dS s),.un]=.ok ((keptA Y s).map iN):=by
    refine cp2_filter (l:=List.range Y.length) (g1:=iN) (g2:=λ i=>D.bl (sat Y s i)) (h:=iN) (p:=sat Y s) ?_ (by simp; omega) ?_ ?_
    · simp only [iE_eq,eCall_eq,aCons_eq,aNil_eq]
      rw [show eV 0 [.val (dYd Y),.val (dS s),.un]=.ok (dYd Y) from rfl,show eV 1 [.val (dYd Y),.val (dS s),.un]=.ok (dS s) from rfl]
      simp only [R.bind_ok]
      rw [e1,R.bind_ok]
      unfold vRow
      rw [enumD_lst]
      unfold enumL
      show R.ok _=R.ok _
      congr 1
      rw [List.length_map,List.length_range]
      refine List.map_congr_left λ i hi=>?_
      have hi':=List.mem_range.mp hi
      simp [List.getD_eq_getElem?_getD,hi']
    · intro i hi
      simp
    · intro i hi _
      simp
  have hk:∀ n∈keptA Y s,n < Y.length:=λ n hn=>List.mem_range.mp (List.mem_filter.mp hn).1
  have hnd:(keptA Y s).Nodup:=List.Nodup.sublist List.filter_sublist List.nodup_range
  have e2:=m_numbered hY hl hk hnd
  by_cases q:keptA Y s=[]
  · rw [if_pos q]
    rw [q] at c
    simp [M_q6,B_q6,begin_,c]
  · rw [if_neg q]
    have hne:¬ ((keptA Y s).length:Int)=0:=λ z=>q (List.eq_nil_of_length_eq_zero (by omega))
    simp [M_q6,B_q6,begin_,c,hne,e2,q]
end Pg


namespace Lw
open PySem PySem.Spec PyProof.Rows L2 Wy Wl
theorem abc_le:(["a","b","zz"]:List Str).Pairwise leT:=by
  refine List.Pairwise.cons ?_ (List.Pairwise.cons ?_ (List.Pairwise.cons ?_ List.Pairwise.nil))
  · intro b hb
    simp only [List.mem_cons,List.not_mem_nil,or_false] at hb
    rcases hb with rfl | rfl <;> (unfold leT; decide)
  · intro b hb
    simp only [List.mem_cons,List.not_mem_nil,or_false] at hb
    rcases hb with rfl
    unfold leT; decide
  · intro b hb; cases hb
theorem abc_nd:(["a","b","zz"]:List Str).Nodup:=by decide
theorem sort_names {ns:List Str} (h:ns.Sublist ["a","b","zz"]):sortSetD (ns.map D.str)=some (ns.map D.str):=by
  have hl:ns.length < 64:=by have:=h.length_le; simp at this; omega
  cases ns with
  | nil=>exact sortSet_nat [] (by decide)
  | cons x r =>
    have e1:asIs ((x::r).map D.str)=none:=rfl
    have e2:asSs ((x::r).map D.str)=some (x::r):=asSs_map _
    unfold sortSetD
    rw [e1]
    dsimp only
    rw [e2]
    dsimp only
    rw [if_pos hl,<- srtT_uniq (ded_perm (h.nodup abc_nd) λ k=>Iff.rfl) (abc_le.sublist h)]
theorem ne_self {l:List D} (h:depDL l<=90):neD (.lst l) (.lst l)=some (.bl false):=by
  rw [neD_of,eqDD_refl]
  · rfl
  · unfold depD; omega
theorem isy_row {Y:List Wd} (hl:Y.length < 64) {r:List Nat} (hr:r.Pairwise (· < ·)) (ht:∀ v∈r,v < Y.length) (x1:Sl):L_q2_2 [.val (dYd Y),x1,.val (dRow r)]=.nx [.val (dYd Y),x1,.val (dRow r)]:=by
  have hrl:r.length < 64:=by have:=rise_len hr λ v hv=>⟨Nat.zero_le v,ht v hv⟩; omega
  have e1:sortSetD (r.map iN)=some (r.map iN):=by rw [sortSet_nat r hrl,srtN_self hr]
  have dp:depDL (r.map iN)<=90:=Nat.le_trans (depDL_le (n:=0) λ d hd=>by
    obtain ⟨v,_,rfl⟩:=List.mem_map.mp hd
    simp) (by omega)
  have e2:=ne_self dp
  have c:eS allS (sO (cpR (iT (eV 2)) cTrue (eAnd (eIsi gInt (eV 0)) (eAnd (eNot (eIsi gBool (eV 0))) (e3 (int2 λ i j=>some (.bl (decide (i<=j)))) ltD (eC (.int 0)) (eV 0) (eB lenD (aCons (eV 2) aNil))))))) [.val (dYd Y),x1,.val (dRow r)]=.ok (.bl true):=by
    rw [all_cp (ds:=r.map iN) (p:=λ _=>true)]
    · simp
    · simp [dRow]
    · simp; omega
    · intro d hd
      obtain ⟨v,hv,rfl⟩:=List.mem_map.mp hd
      have:=ht v hv
      have h2:(v:Int) < (Y.length:Int):=by omega
      simp [gInt,gBool,dYd,h2]
  have g1:gTuple (tyN (dRow r))=true:=rfl
  have s2:sV 2 [.val (dYd Y),x1,.val (dRow r)]=.ok (true,r.map iN):=rfl
  simp [-cpR_eq,-eS_eq,-sV_succ,L_q2_2,c,g1,s2,e1,e2]
theorem isy_world {Y:List Wd} (hY:YOk Y) (hl:Y.length < 64) {w:Wd} (hw:w∈Y) (x2:Sl):∃ y2,L_q2_1 [.val (dYd Y),.val (dWd w),x2]=.nx [.val (dYd Y),.val (dWd w),y2]:=by
  obtain ⟨Γ',h1,y2,rfl⟩:=turns_keep (g:=gName' 2) (T:=L_q2_2) (λ Γ=>∃ y2,Γ=[.val (dYd Y),.val (dWd w),y2]) (w.2.map dRow) [.val (dYd Y),.val (dWd w),x2] (by
    rintro d Γ hd ⟨y2,rfl⟩
    obtain ⟨r,hr,rfl⟩:=List.mem_map.mp hd
    exact ⟨_,_,rfl,.inl (isy_row hl (hY.rise w hw r hr) (hY.there w hw r hr) _),_,rfl⟩) ⟨_,rfl⟩
  refine ⟨y2,?_⟩
  have i0:ixD (dWd w) (.int 0)=some (dNames w.1):=rfl
  have i1:ixD (dWd w) (.int 1)=some (dWays w.2):=rfl
  have e1:=sort_names (hY.names w hw)
  have dp:depDL (w.1.map D.str)<=90:=Nat.le_trans (depDL_le (n:=0) λ d hd=>by
    obtain ⟨v,_,rfl⟩:=List.mem_map.mp hd
    simp) (by omega)
  have e2:=ne_self dp
  have h3:(w.2.length:Int)=3:=by have:=hY.three w hw; omega
  have g1:gTuple (tyN (dWd w))=true:=rfl
  have g2:gTuple (tyN (dNames w.1))=true:=rfl
  have g3:gTuple (tyN (dWays w.2))=true:=rfl
  have l1:lenD [dWd w]=some (.int 2):=rfl
  have l2:lenD [dWays w.2]=some (.int 3):=by rw [show dWays w.2=.tup (w.2.map dRow) from rfl,lenD_tup]; simp [h3]
  have s1:seqOf (dNames w.1)=some (true,w.1.map D.str):=rfl
  have a1:asT (dWays w.2)=some (w.2.map dRow):=rfl
  simp [L_q2_1,i0,i1,g1,g2,g3,l1,l2,s1,e1,e2,a1,h1]
theorem m_isyard {Y:List Wd} (hY:YOk Y) (hl:Y.length < 64):M_q2 [dYd Y]=.ok (.bl true):=by
  obtain ⟨Γ',h1,x1,x2,rfl⟩:=turns_keep (g:=gName' 1) (T:=L_q2_1) (λ Γ=>∃ x1 x2,Γ=[.val (dYd Y),x1,x2]) (Y.map dWd) [.val (dYd Y),.un,.un] (by
    rintro d Γ hd ⟨x1,x2,rfl⟩
    obtain ⟨w,hw,rfl⟩:=List.mem_map.mp hd
    obtain ⟨y2,e⟩:=isy_world hY hl hw x2
    exact ⟨_,_,rfl,.inl e,_,_,rfl⟩) ⟨_,_,rfl⟩
  have hp:=hY.pos
  have hne:¬ (Y.length:Int)=0:=by omega
  have hne':¬ Y=[]:=λ z=>by rw [z] at hp; simp at hp
  have g1:gTuple (tyN (dYd Y))=true:=rfl
  have l1:lenD [dYd Y]=some (.int Y.length):=by rw [show dYd Y=.tup (Y.map dWd) from rfl,lenD_tup]; simp
  have a1:asT (dYd Y)=some (Y.map dWd):=rfl
  simp [M_q2,B_q2,begin_,g1,l1,a1,hne,hne',h1]
end Lw


namespace Wl
open PySem PySem.Spec PyProof.Rows L2 Wy Pg
theorem cp_filter {α:Type} {it:Ga->R (List D)} {c:Ga->R Bool} {f:Ga->R D} {Γ:Ga} {g h:α->D} {p:α->Bool} {l:List α} (h1:it Γ=.ok (l.map g)) (h2:l.length < 16000000)
    (h3:∀ a∈l,c (.val (g a)::.un::Γ)=.ok (p a)) (h4:∀ a∈l,p a=true->f (.val (g a)::.un::Γ)=.ok (h a)):cpR it c f Γ=.ok ((l.filter p).map h):=by
  have main:∀ l:List α,(∀ a∈l,c (.val (g a)::.un::Γ)=.ok (p a))->(∀ a∈l,p a=true->f (.val (g a)::.un::Γ)=.ok (h a))->compR c f Γ (l.map g)=.ok ((l.filter p).map h):=by
    intro l
    induction l with
    | nil=>intro _ _; rfl
    | cons a l ih =>
      intro q1 q2
      have:=ih (λ b hb=>q1 b (List.mem_cons_of_mem _ hb)) (λ b hb=>q2 b (List.mem_cons_of_mem _ hb))
      have q1a:=q1 a List.mem_cons_self
      rw [List.map_cons,compR]
      cases hp:p a with
      | true =>
        have q2a:=q2 a List.mem_cons_self hp
        rw [hp] at q1a
        simp [q1a,q2a,this,hp]
      | false =>
        rw [hp] at q1a
        simp [q1a,this,hp]
  rw [cpR_eq,h1,R.bind_ok,if_pos (by simpa using h2),main l h3 h4]
theorem small_s {s:Say} (ho:okS s=true) (hd:depS s<=5):sizeS s<=100000:=by
  have h0:=size_txt s
  have h1:=txt_len s ho
  have h2:2 ^ depS s<=2 ^ 5:=Nat.pow_le_pow_right (by decide) hd
  omega
theorem yd_ix {Y:List Wd} {w:Nat} (h:w < Y.length):ixD (dYd Y) (.int (w:Int))=some (dWd (wdAt Y w)):=by
  rw [show dYd Y=.tup (Y.map dWd) from rfl,ixD_tup]
  exact atI_nat (by rw [List.getElem?_map,wdAt_get h]; rfl)
theorem ne_names (ns:List Str):neD (dNames ns) (dNames ns)=some (.bl false):=by
  rw [neD_of,eqDD_refl]
  · rfl
  · have:depDL (ns.map D.str)<=0:=depDL_le λ d hd=>by
      obtain ⟨w,_,rfl⟩:=List.mem_map.mp hd
      simp
    unfold dNames depD
    omega
theorem yd_len (Y:List Wd):lenD [dYd Y]=some (.int Y.length):=by rw [show dYd Y=.tup (Y.map dWd) from rfl,lenD_tup]; simp
theorem enum_nat (l:List Nat):enumL (l.map iN)=(List.range l.length).map λ i=>D.tup [iN i,iN (l.getD i 0)]:=by
  unfold enumL
  rw [List.length_map]
  refine List.map_congr_left λ i hi=>?_
  have hi':=List.mem_range.mp hi
  simp [List.getD_eq_getElem?_getD,hi']
theorem wdAt_movY {Y:List Wd} {pl:Nat->Option Nat} {kept:List Nat} {i:Nat} (h:i < kept.length):wdAt (movY Y pl kept) i=movW Y pl (kept.getD i 0):=by
  unfold wdAt movY
  simp [List.getD_eq_getElem?_getD,h]
theorem kept_at {kept:List Nat} {i:Nat} (h:i < kept.length):kept.getD i 0∈kept:=by
  rw [List.getD_eq_getElem?_getD,List.getElem?_eq_getElem h]
  exact List.getElem_mem h
theorem rowAt_movY {Y:List Wd} {pl:Nat->Option Nat} {kept:List Nat} {i k:Nat} (h:i < kept.length):rowAt (movY Y pl kept) i k=srtN ((rowAt Y (kept.getD i 0) k).filterMap pl):=by
  unfold rowAt
  rw [wdAt_movY h]
  unfold movW
  simp only [List.getD_eq_getElem?_getD,List.getElem?_map]
  cases (wdAt Y (kept[i]?.getD 0)).2[k]? with
  | none=>rfl
  | some r=>rfl
theorem movY_ok {Y:List Wd} (hY:YOk Y) {pl:Nat->Option Nat} {kept:List Nat} (h0:kept≠[]) (hk:∀ n∈kept,n < Y.length) (hp:∀ v p,pl v=some p->p < kept.length):YOk (movY Y pl kept) where
  three:=λ w hw=>by
    obtain ⟨n,hn,rfl⟩:=List.mem_map.mp hw
    unfold movW
    simp [hY.three _ (wdAt_mem (hk n hn))]
  there:=λ w hw r hr v hv=>by
    obtain ⟨n,hn,rfl⟩:=List.mem_map.mp hw
    obtain ⟨r',hr',rfl⟩:=List.mem_map.mp hr
    obtain ⟨u,_,e⟩:=List.mem_filterMap.mp (mem_srtN.mp hv)
    have:=hp u v e
    unfold movY
    simpa using this
  rise:=λ w hw r hr=>by
    obtain ⟨n,hn,rfl⟩:=List.mem_map.mp hw
    obtain ⟨r',hr',rfl⟩:=List.mem_map.mp hr
    exact srtN_rise _
  names:=λ w hw=>by
    obtain ⟨n,hn,rfl⟩:=List.mem_map.mp hw
    exact hY.names (wdAt Y n) (wdAt_mem (hk n hn))
  pos:=by
    unfold movY
    rw [List.length_map]
    cases kept with
    | nil=>exact absurd rfl h0
    | cons a r=>simp
theorem idxO_some {kept:List Nat} {v p:Nat} (h:idxO kept v=some p):p < kept.length/\kept.getD p 0=v:=by
  unfold idxO at h
  obtain ⟨h1,h2,_⟩:=List.findIdx?_eq_some_iff_getElem.mp h
  refine ⟨h1,?_⟩
  rw [List.getD_eq_getElem?_getD,List.getElem?_eq_getElem h1]
  exact of_decide_eq_true h2
theorem idxO_mem {kept:List Nat} {v:Nat} (h:v∈kept):∃ p,idxO kept v=some p:=by
  unfold idxO
  cases e:kept.findIdx? λ x=>decide (x=v) with
  | some p=>exact ⟨p,rfl⟩
  | none =>
    have:=List.findIdx?_eq_none_iff.mp e v h
    simp at this
theorem idxO_of {kept:List Nat} {v p:Nat} (h:idxO kept v=some p):v∈kept:=by
  obtain ⟨h1,h2⟩:=idxO_some h
  rw [<- h2]
  exact kept_at h1
theorem numY_len (Y:List Wd) (kept:List Nat):(numY Y kept).length=kept.length:=by unfold numY movY; simp
theorem numY_ok {Y:List Wd} (hY:YOk Y) {kept:List Nat} (h0:kept≠[]) (hk:∀ n∈kept,n < Y.length):YOk (numY Y kept):=movY_ok hY h0 hk λ _ _ e=>(idxO_some e).1
noncomputable def satR (Y:List Wd) (S:List Nat):Say->Nat->Bool
  | .nm x,w=>decide (x∈(wdAt Y w).1)
  | .neg a,w=>!satR Y S a w
  | .two c a b,w=>if c=true then satR Y S a w&&satR Y S b w else satR Y S a w||satR Y S b w
  | .way c k a,w=>if c=true then ((rowAt Y w k).filter λ v=>decide (v∈S)).all (satR Y S a) else ((rowAt Y w k).filter λ v=>decide (v∈S)).any (satR Y S a)
theorem sat_num {Y:List Wd} {kept:List Nat}:∀ (s:Say) (i:Nat),okS s=true->i < kept.length->sat (numY Y kept) s i=satR Y kept s (kept.getD i 0)
  | .nm x,i,_,h=>by unfold sat satR numY; rw [wdAt_movY h]; rfl
  | .neg a,i,ho,h=>by unfold sat satR; rw [sat_num a i ho h]
  | .two c a b,i,ho,h=>by
    simp only [okS,Bool.and_eq_true] at ho
    unfold sat satR
    rw [sat_num a i ho.1 h,sat_num b i ho.2 h]
  | .way c k a,i,ho,h=>by
    simp only [okS,Bool.and_eq_true,decide_eq_true_iff] at ho
    have hr:rowAt (numY Y kept) i k=srtN ((rowAt Y (kept.getD i 0) k).filterMap (idxO kept)):=rowAt_movY h
    have ih:∀ v p,idxO kept v=some p->sat (numY Y kept) a p=satR Y kept a v:=λ v p e=>by
      obtain ⟨h1,h2⟩:=idxO_some e
      rw [sat_num a p ho.2 h1,h2]
    unfold sat satR
    rw [hr]
    cases c with
    | true =>
      simp only [if_true]
      rw [Bool.eq_iff_iff,List.all_eq_true,List.all_eq_true]
      constructor
      · intro q v hv
        obtain ⟨h1,h2⟩:=List.mem_filter.mp hv
        obtain ⟨p,e⟩:=idxO_mem (of_decide_eq_true h2)
        rw [<- ih v p e]
        exact q p (mem_srtN.mpr (List.mem_filterMap.mpr ⟨v,h1,e⟩))
      · intro q p hp
        obtain ⟨v,h1,e⟩:=List.mem_filterMap.mp (mem_srtN.mp hp)
        rw [ih v p e]
        exact q v (List.mem_filter.mpr ⟨h1,decide_eq_true (idxO_of e)⟩)
    | false =>
      simp only [Bool.false_eq_true,if_false]
      rw [Bool.eq_iff_iff,List.any_eq_true,List.any_eq_true]
      constructor
      · rintro ⟨p,hp,q⟩
        obtain ⟨v,h1,e⟩:=List.mem_filterMap.mp (mem_srtN.mp hp)
        exact ⟨v,List.mem_filter.mpr ⟨h1,decide_eq_true (idxO_of e)⟩,by rw [<- ih v p e]; exact q⟩
      · rintro ⟨v,hv,q⟩
        obtain ⟨h1,h2⟩:=List.mem_filter.mp hv
        obtain ⟨p,e⟩:=idxO_mem (of_decide_eq_true h2)
        exact ⟨p,mem_srtN.mpr (List.mem_filterMap.mpr ⟨v,h1,e⟩),by rw [ih v p e]; exact q⟩
end Wl


namespace L14
open PySem PySem.Spec PyProof.Rows L2 Wy Wl Lw Pg
theorem mem_ints (v:Nat) (S:List Nat):memA (iN v) (.lst (S.map iN))=some (.bl (decide (v∈S))):=by
  rw [memA_lst (Nat.le_trans (depDL_le (n:=0) λ d hd=>by
    obtain ⟨u,_,rfl⟩:=List.mem_map.mp hd
    simp) (by omega))]
  congr 2
  rw [Bool.eq_iff_iff,List.any_eq_true,decide_eq_true_iff]
  constructor
  · rintro ⟨d,hd,h⟩
    obtain ⟨z,hz,rfl⟩:=List.mem_map.mp hd
    rw [eqDD_int,decide_eq_true_iff] at h
    have:z=v:=by omega
    rw [<- this]
    exact hz
  · intro h
    exact ⟨_,List.mem_map.mpr ⟨v,h,rfl⟩,by simp⟩
theorem ao_and:memA (.str "and") (.lst [.str "and",.str "or"])=some (.bl true):=by rw [memA_lst (by simp [depDL])]; simp
theorem ao_or:memA (.str "or") (.lst [.str "and",.str "or"])=some (.bl true):=by rw [memA_lst (by simp [depDL])]; simp
theorem ao_all:memA (.str "all") (.lst [.str "and",.str "or"])=some (.bl false):=by rw [memA_lst (by simp [depDL])]; simp
theorem ao_some:memA (.str "some") (.lst [.str "and",.str "or"])=some (.bl false):=by rw [memA_lst (by simp [depDL])]; simp
theorem m_behind {Y:List Wd} (hY:YOk Y) (h5:Y.length < 64) (S:List Nat):∀ (n:Nat) (s:Say) (w:Nat),depS s < n->okS s=true->w < Y.length->M_q5 n [dYd Y,.lst (S.map iN),.int (w:Int),dS s]=.ok (.bl (satR Y S s w))
  | 0,_,_,h,_,_=>absurd h (Nat.not_lt_zero _)
  | n + 1,.nm x,w,_,_,hw=>by
    simp [M_q5,B_q5,begin_,yd_at (wdAt_get hw),mem_names,satR]
  | n + 1,.neg a,w,h,ho,hw=>by
    have ih:=m_behind hY h5 S n a w (Nat.lt_of_succ_lt_succ h) ho hw
    simp [M_q5,B_q5,begin_,ih,satR]
  | n + 1,.two c a b,w,h,ho,hw=>by
    simp only [depS,okS,Bool.and_eq_true] at h ho
    have ih1:=m_behind hY h5 S n a w (by omega) ho.1 hw
    have ih2:=m_behind hY h5 S n b w (by omega) ho.2 hw
    have sl:slA (dS (.two c a b)) (some 1) none=some (.tup [dS a,dS b]):=rfl
    have c1:cpR (iT (eSlA (eV 3) (oI (eC (.int 1))) oN)) cTrue (eCall (M_q5 n) (aCons (eV 2) (aCons (eV 3) (aCons (eV 4) (aCons (eV 0) aNil))))) [.val (dYd Y),.val (.lst (S.map iN)),.val (.int (w:Int)),.val (dS (.two c a b)),.un,.un]=.ok [.bl (satR Y S a w),.bl (satR Y S b w)] :=
      cp_of (l:=[a,b]) (g:=dS) (h:=λ s=>.bl (satR Y S s w)) (by simp [sl]) (by simp) (by
        intro s hs
        simp only [List.mem_cons,List.not_mem_nil,or_false] at hs
        rcases hs with rfl | rfl
        · simp [ih1]
        · simp [ih2])
    cases c <;> cases h1:satR Y S a w <;> cases h2:satR Y S b w <;> rw [h1,h2] at c1 <;> simp [-cpR_eq,M_q5,B_q5,begin_,ao_and,ao_or,c1,satR,hd2,h1,h2,atI_zero,atI_one]
  | n + 1,.way c k a,w,h,ho,hw=>by
    simp only [depS,okS,Bool.and_eq_true,decide_eq_true_iff] at h ho
    have e1:=ways_at hY hw ho.1
    have hrl:=rowAt_len hY hw (k:=k)
    have c1:cpR (iT (e2 ixD (e2 ixD (e2 ixD (eV 0) (eV 2)) (eC (.int 1))) (e2 ixD (eV 3) (eC (.int 1))))) (tB (e2 memA (eV 0) (eV 3))) (eCall (M_q5 n) (aCons (eV 2) (aCons (eV 3) (aCons (eV 0) (aCons (e2 ixD (eV 5) (eC (.int 2))) aNil))))) [.val (dYd Y),.val (.lst (S.map iN)),.val (.int (w:Int)),.val (dS (.way c k a)),.un,.un] =
        .ok (((rowAt Y w k).filter λ v=>decide (v∈S)).map λ v=>D.bl (satR Y S a v)):=by
      refine cp_filter (l:=rowAt Y w k) (g:=iN) (h:=λ v=>D.bl (satR Y S a v)) (p:=λ v=>decide (v∈S)) ?_ (by omega) ?_ ?_
      · simp [yd_at (wdAt_get hw),e1,dRow]
      · intro v hv
        have:=mem_ints v S
        simp [this]
      · intro v hv _
        have:=m_behind hY h5 S n a v (by omega) ho.2 (rowAt_there hY hw v hv)
        simp [this]
    have ea:=allS_eq (bs:=((rowAt Y w k).filter λ v=>decide (v∈S)).map (satR Y S a))
    have eb:=anyS_eq (bs:=((rowAt Y w k).filter λ v=>decide (v∈S)).map (satR Y S a))
    rw [List.map_map] at ea eb
    have ea:allS (false,((rowAt Y w k).filter λ v=>decide (v∈S)).map λ v=>D.bl (satR Y S a v))=_:=ea
    have eb:anyS (false,((rowAt Y w k).filter λ v=>decide (v∈S)).map λ v=>D.bl (satR Y S a v))=_:=eb
    cases c <;> simp [-cpR_eq,M_q5,B_q5,begin_,ao_all,ao_some,c1,satR,hdw,ea,eb]
theorem refused {Y:List Wd} (hY:YOk Y) (hl:Y.length < 64) (s:Say) (ho:okS s=true) (hs:sizeS s<=100000) (h0:keptA Y s=[]):callR N_q1 (B_q1 M_q6) [dYd Y,dS s]=.ok (.bl true):=by
  have e:=m_told hY hl s ho hs
  rw [if_pos h0] at e
  have t1:t_YardError "NoWorld"=some true:=by decide
  have y1:y_NoWorld "NoWorld"=true:=by decide
  have y2:y_ValueError "NoWorld"=true:=by decide
  have z1:∀ {Γ:Ga} {yb:Str->Bool},Γ[3]?=some (.exc "NoWorld")->yb "NoWorld"=true->eIsx 3 yb Γ=.ok (.bl true):=λ h hy=>eIsx_at h hy
  simp [B_q1,L_q1_1,L_q1_2,begin_,e,tr_ex t1,z1,y1,y2]
section
variable {Y:List Wd} (hY:YOk Y) (hl:Y.length < 64) {S:List Nat} (h0:S≠[]) (hS:∀ n∈S,n < Y.length) (hnd:S.Nodup) (ns:List Int) (da:D)
include hY hl h0 hS hnd
theorem turn2 {i:Nat} (hi:i < S.length) (c:Int) (x8:Sl):∃ y8,L_law_2 (M_q4 6) M_q20 (M_q5 6) [.val (dLs ns),.val (dYd Y),.val da,.val (.lst (S.map iN)),.val (dYd (numY Y S)),.val (iN i),.val (iN (S.getD i 0)),.val (.int c),x8] =
    .nx [.val (dLs ns),.val (dYd Y),.val da,.val (.lst (S.map iN)),.val (dYd (numY Y S)),.val (iN i),.val (iN (S.getD i 0)),.val (.int c),y8]:=by
  obtain ⟨ho,hd⟩:=lawS_ok 3 c
  have eS:M_q4 6 [.int c,.int 3]=.ok (dS (lawS 3 c)):=m_saying 6 3 c (by decide)
  generalize lawS 3 c=s at *
  have hY':=numY_ok hY h0 hS
  have hl':(numY Y S).length<=100000:=by rw [numY_len]; have:=nodup_lt_len _ _ hnd hS; omega
  have e1:=m_holdsP hY' hl' s ho (small_s ho (by omega)) i (by rw [numY_len]; exact hi)
  have e2:=m_behind hY hl S 6 s (S.getD i 0) (by omega) ho (hS _ (kept_at hi))
  rw [sat_num s i ho hi] at e1
  refine ⟨.val (dS s),?_⟩
  generalize S.getD i 0=u at *
  simp [L_law_2,eS,e1,e2]
theorem turn1 {i:Nat} (hi:i < S.length) (x5 x6 x7 x8:Sl):∃ y7 y8,L_law_1 (M_q4 6) M_q20 (M_q5 6) [.val (dLs ns),.val (dYd Y),.val da,.val (.lst (S.map iN)),.val (dYd (numY Y S)),.val (iN i),.val (iN (S.getD i 0)),x7,x8] =
    .nx [.val (dLs ns),.val (dYd Y),.val da,.val (.lst (S.map iN)),.val (dYd (numY Y S)),.val (iN i),.val (iN (S.getD i 0)),y7,y8]:=by
  obtain ⟨Γ',h1,y7,y8,rfl⟩:=turns_keep (g:=gName' 7) (T:=L_law_2 (M_q4 6) M_q20 (M_q5 6)) (λ Γ=>∃ y7 y8,Γ=[.val (dLs ns),.val (dYd Y),.val da,.val (.lst (S.map iN)),.val (dYd (numY Y S)),.val (iN i),.val (iN (S.getD i 0)),y7,y8])
    (cut (ns.map D.int) (some 10) (some 15)) [.val (dLs ns),.val (dYd Y),.val da,.val (.lst (S.map iN)),.val (dYd (numY Y S)),.val (iN i),.val (iN (S.getD i 0)),x7,x8] (by
      rintro d Γ hd ⟨y7,y8,rfl⟩
      obtain ⟨c,rfl⟩:=cut_int hd
      obtain ⟨z8,hz⟩:=turn2 hY hl h0 hS hnd ns da hi c y8
      exact ⟨_,_,rfl,.inl hz,_,_,rfl⟩) ⟨_,_,rfl⟩
  refine ⟨y7,y8,?_⟩
  have e1:ixD (dYd (numY Y S)) (iN i)=some (dWd (wdAt (numY Y S) i)):=yd_ix (by rw [numY_len]; exact hi)
  have e2:ixD (dYd Y) (iN (S.getD i 0))=some (dWd (wdAt Y (S.getD i 0))):=yd_ix (hS _ (kept_at hi))
  have n1:ixD (dWd (wdAt (numY Y S) i)) (.int 0)=some (dNames (wdAt Y (S.getD i 0)).1):=by
    rw [show wdAt (numY Y S) i=movW Y (idxO S) (S.getD i 0) from wdAt_movY hi]; rfl
  have n2:ixD (dWd (wdAt Y (S.getD i 0))) (.int 0)=some (dNames (wdAt Y (S.getD i 0)).1):=rfl
  have n3:=ne_names (wdAt Y (S.getD i 0)).1
  have e3:oSl (sV 0) (oI (eC (.int 10))) (oI (eC (.int 15))) [.val (dLs ns),.val (dYd Y),.val da,.val (.lst (S.map iN)),.val (dYd (numY Y S)),.val (iN i),.val (iN (S.getD i 0)),x7,x8]=.ok (cut (ns.map D.int) (some 10) (some 15)):=by
    simp [dLs]
  generalize S.getD i 0=u at *
  simp [-oSl_eq,L_law_1,e1,e2,n1,n2,n3,e3,h1]
end
theorem law_ok {Mr:List D->R D} (hR:∀ (Y:List Wd) (s:Say),YOk Y->Y.length < 64->okS s=true->sizeS s<=100000->keptA Y s=[]->Mr [dYd Y,dS s]=.ok (.bl true)) (ns:List Int) (hn:ns.length<=63) :
    callR N_law (B_law M_q11 M_q9 (M_q4 6) (M_q7 6) Mr M_q6 M_q2 M_q20 (M_q5 6)) [.lst (ns.map D.int)]=.ok (.bl true):=by
  have e1:M_q9 [dLs ns,.int 8]=.ok (.int (cellI ns 8)):=m_cell ns 8
  have e1':M_q9 [dLs ns,.int 9]=.ok (.int (cellI ns 9)):=m_cell ns 9
  have e2:M_q11 [dLs ns,.int 0,.int (cellI ns 8 % 2)]=.ok (dYd (lawYd ns 0 (cellI ns 8 % 2))):=m_yard ns 0 _
  have hY:=lawYd_ok ns 0 (cellI ns 8 % 2)
  have hl:(lawYd ns 0 (cellI ns 8 % 2)).length<=5:=by rw [lawYd_len]; exact (yCount_le ns 0).2
  generalize lawYd ns 0 (cellI ns 8 % 2)=Y at *
  obtain ⟨ho,hd⟩:=lawS_ok 3 (cellI ns 9)
  have eS:M_q4 6 [.int (cellI ns 9),.int 3]=.ok (dS (lawS 3 (cellI ns 9))):=m_saying 6 3 _ (by decide)
  generalize lawS 3 (cellI ns 9)=s at *
  have hs:=small_s ho (show depS s<=5 by omega)
  have eR:rng1 [.int (Y.length:Int)]=some ((List.range Y.length).map λ (j:Nat)=>D.int (j:Int)):=rng1_nat (by omega)
  have hl64:Y.length < 64:=by omega
  have c1:cpR (iR1 (aCons (eB lenD (aCons (eV 1) aNil)) aNil)) (tTru (eCall (M_q7 6) (aCons (eV 3) (aCons (eV 0) (aCons (eV 4) aNil))))) (eV 0) [.val (dLs ns),.val (dYd Y),.val (dS s),.un,.un,.un,.un,.un,.un]=.ok ((keptA Y s).map iN):=by
    refine cp_filter (l:=List.range Y.length) (g:=iN) (h:=iN) (p:=sat Y s) ?_ (by simp; omega) ?_ ?_
    · simp [yd_len,eR]
    · intro i hi
      have:=m_q20 hY 6 s i (by omega) ho (List.mem_range.mp hi)
      simp [this]
    · intro i hi _
      simp
  have tl:=m_told hY hl64 s ho hs
  rw [show D.lst (ns.map D.int)=dLs ns from rfl]
  by_cases q:keptA Y s=[]
  · have r:=hR Y s hY hl64 ho hs q
    rw [q] at c1
    have tr0:truD (.lst [])=some false:=rfl
    simp [-cpR_eq,B_law,begin_,e1,e1',e2,eS,c1,r,tr0]
  · rw [if_neg q] at tl
    have hS:∀ n∈keptA Y s,n < Y.length:=λ n hn=>List.mem_range.mp (List.mem_filter.mp hn).1
    have hnd:(keptA Y s).Nodup:=List.Nodup.sublist List.filter_sublist List.nodup_range
    have hlen:=nodup_lt_len _ _ hnd hS
    have iy:=m_isyard (numY_ok hY q hS) (by rw [numY_len]; omega)
    have ln:lenD [dYd (numY Y (keptA Y s))]=some (.int (keptA Y s).length):=by rw [yd_len,numY_len]
    obtain ⟨Γ',h1,x5,x6,x7,x8,rfl⟩:=turns_keep (g:=gTwo (gName' 5) (gName' 6)) (T:=L_law_1 (M_q4 6) M_q20 (M_q5 6)) (λ Γ=>∃ x5 x6 x7 x8,Γ=[.val (dLs ns),.val (dYd Y),.val (dS s),.val (.lst ((keptA Y s).map iN)),.val (dYd (numY Y (keptA Y s))),x5,x6,x7,x8])
      (enumL ((keptA Y s).map iN)) [.val (dLs ns),.val (dYd Y),.val (dS s),.val (.lst ((keptA Y s).map iN)),.val (dYd (numY Y (keptA Y s))),.un,.un,.un,.un] (by
        rintro d Γ hd ⟨x5,x6,x7,x8,rfl⟩
        rw [enum_nat] at hd
        obtain ⟨i,hi,rfl⟩:=List.mem_map.mp hd
        obtain ⟨y7,y8,hz⟩:=turn1 hY hl64 q hS hnd ns (dS s) (List.mem_range.mp hi) x5 x6 x7 x8
        exact ⟨_,_,rfl,.inl hz,_,_,_,_,rfl⟩) ⟨_,_,_,_,rfl⟩
    have tr:truD (.lst ((keptA Y s).map iN))=some true:=by
      cases h:keptA Y s with
      | nil=>exact absurd h q
      | cons a r=>rfl
    simp [-cpR_eq,B_law,begin_,e1,e1',e2,eS,c1,tr,tl,iy,ln,h1]
end L14

namespace K14
open PySem PySem.Spec PyProof.Rows L2 Wy Wl Lw Pg L14
noncomputable def top (i:Nat):Stmt:=PySem.Challenge.pw_worldyard_k14_whole_told_to_all.main.body.getD i (.Pass ⟨0,0,0,0⟩)
noncomputable abbrev s_q9:Stmt:=top 23
noncomputable abbrev ps_q9:List Str:=["_law_script","_law_k"]
theorem sc_q9:FnScope N_q9 ps_q9 (defScope s_q9):=⟨rfl,rfl,rfl,by decide +kernel,rfl,by decide +kernel,by decide +kernel⟩
theorem ok_q9 {P:Program} {w:World} {K:PySem.W.Frag} {mg:Str->Option Value} {base:Heap} {k:Nat} {a:Addr} {fd:FuncData} (Df:Def K mg "_law_cell" s_q9 ps_q9 a fd)
    (m_len:mg "len"=none)
   :FnOk P w K mg base (CX1 P w) (k + 1) a fd ps_q9 (spF K mg ps_q9.length λ ds=>callR N_q9 (B_q9) ds) :=
  fn_R1 Df.fn sc_q9 λ cdv A outer s H W E hr=>(xs_cons (x_if (tv_cmp opd_lt (ev_var 1) (ev_callB calld_len rfl m_len PySem.boot_len (av_cons (ev_var 0) av_nil))) (xs_one (x_ret (ev_ix (ev_var 0) (ev_var 1)))) xs_nil) (xs_one (x_ret ev_int)))
noncomputable abbrev s_q13:Stmt:=top 24
noncomputable abbrev ps_q13:List Str:=["_law_cell_here","_law_prime","_law_many"]
theorem sc_q13:FnScope N_q13 ps_q13 (defScope s_q13):=⟨rfl,rfl,rfl,by decide +kernel,rfl,by decide +kernel,by decide +kernel⟩
theorem ok_q13 {P:Program} {w:World} {K:PySem.W.Frag} {mg:Str->Option Value} {base:Heap} {k:Nat} {a:Addr} {fd:FuncData} (Df:Def K mg "_law_mix" s_q13 ps_q13 a fd)
   :FnOk P w K mg base (CX1 P w) (k + 1) a fd ps_q13 (spF K mg ps_q13.length λ ds=>callR N_q13 (B_q13) ds) :=
  fn_R1 Df.fn sc_q13 λ cdv A outer s H W E hr=>(xs_one (x_ret (ev_op opd_mod (ev_op opd_mod (ev_op opd_mul (ev_var 0) ev_int) (ev_var 1)) (ev_var 2))))
noncomputable abbrev s_q11:Stmt:=top 26
noncomputable abbrev ps_q11:List Str:=["_law_script","_law_k","_law_own"]
theorem sc_q11:FnScope N_q11 ps_q11 (defScope s_q11):=⟨rfl,rfl,rfl,by decide +kernel,rfl,by decide +kernel,by decide +kernel⟩
theorem ok_q11 {P:Program} {w:World} {K:PySem.W.Frag} {mg:Str->Option Value} {base:Heap} {k:Nat} {a:Addr} {fd:FuncData} (Df:Def K mg "_law_yard" s_q11 ps_q11 a fd)
    {M_q9:List D->R D} {a_q9:Addr} {fd_q9:FuncData} (D_q9:Def K mg "_law_cell" s_q9 ps_q9 a_q9 fd_q9) (F_q9:FnOk P w K mg base (CX1 P w) k a_q9 fd_q9 ps_q9 (spF K mg ps_q9.length M_q9))
    {M_q13:List D->R D} {a_q13:Addr} {fd_q13:FuncData} (D_q13:Def K mg "_law_mix" s_q13 ps_q13 a_q13 fd_q13) (F_q13:FnOk P w K mg base (CX1 P w) k a_q13 fd_q13 ps_q13 (spF K mg ps_q13.length M_q13))
    (m_range:mg "range"=none)
    (m_enumerate:mg "enumerate"=none)
    (m_tuple:mg "tuple"=none)
   :FnOk P w K mg base (CX1 P w) (k + 1) a fd ps_q11 (spF K mg ps_q11.length λ ds=>callR N_q11 (B_q11 M_q9 M_q13) ds) :=
  fn_R1 Df.fn sc_q11 λ cdv A outer s H W E hr=>(xs_cons (x_set 3 (ev_op opd_addD ev_int (ev_op opd_mod (ev_call F_q9 (pw1 ⟨rfl,rfl,rfl⟩) hr rfl D_q9.mg D_q9.fn.kp D_q9.bd (av_cons (ev_var 0) (av_cons (ev_var 1) av_nil))) ev_int)) sc_q11.nd) (xs_cons (x_setO 4 (ow_lst av_nil) sc_q11.nd) (xs_cons (x_for rfl (it_range1 rfl m_range (av_cons (ev_var 3) av_nil)) (tg_name 5 sc_q11.nd) (xs_cons (x_setO 6 (ow_lst av_nil) sc_q11.nd) (xs_cons (x_for rfl (it_enum rfl m_enumerate (ev_ow (ow_lst (av_cons ev_str (av_cons ev_str (av_cons ev_str av_nil)))))) (tg_two rfl (tg_name 7 sc_q11.nd) (tg_name 8 sc_q11.nd)) (xs_one (x_if (tv_cmp (opd_eqD (room_u hr)) (ev_call F_q13 (pw1 ⟨rfl,rfl,rfl⟩) hr rfl D_q13.mg D_q13.fn.kp D_q13.bd (av_cons (ev_op opd_addD (ev_op opd_addD (ev_call F_q9 (pw1 ⟨rfl,rfl,rfl⟩) hr rfl D_q9.mg D_q9.fn.kp D_q9.bd (av_cons (ev_var 0) (av_cons (ev_op opd_addD (ev_var 1) ev_int) av_nil))) (ev_op opd_mul ev_int (ev_var 5))) (ev_var 7)) (av_cons ev_int (av_cons ev_int av_nil)))) ev_int) (xs_one (x_app 6 (ev_var 8))) xs_nil)) (hp:=po1 ⟨rfl,rfl,rfl⟩)) (xs_cons (x_setO 9 (ow_lst av_nil) sc_q11.nd) (xs_cons (x_for rfl (it_range1 rfl m_range (av_cons ev_int av_nil)) (tg_name 10 sc_q11.nd) (xs_cons (x_set 11 (ev_op opd_addD (ev_call F_q9 (pw1 ⟨rfl,rfl,rfl⟩) hr rfl D_q9.mg D_q9.fn.kp D_q9.bd (av_cons (ev_var 0) (av_cons (ev_op opd_addD (ev_op opd_addD (ev_var 1) ev_int) (ev_var 10)) av_nil))) (ev_op opd_mul ev_int (ev_var 5))) sc_q11.nd) (xs_cons (x_freeze (x_setComp 12 (blk_mk (defScope s_q11) N_q11 ["_law_own","_law_seed","_law_world"] rfl rfl rfl rfl (List.forall_mem_cons.mpr ⟨rfl,(List.forall_mem_cons.mpr ⟨rfl,(List.forall_mem_cons.mpr ⟨rfl,(List.forall_mem_nil _)⟩)⟩)⟩) (by decide +kernel)) rfl (it_range1 rfl m_range (av_cons (ev_var 3) av_nil)) (λ _ _ _ _=>(ts_one (WvD.tv (wv_or (tv_cmp (opd_eqD (room_u hr)) (ev_call F_q13 pwB hr rfl D_q13.mg D_q13.fn.kp D_q13.bd (av_cons (ev_op opd_addD (ev_var 13) (ev_op opd_mul ev_int (ev_var 0))) (av_cons ev_int (av_cons ev_int av_nil)))) ev_int) (wv_or1 (WvD.tv (wv_and (tv_cmp (opd_eqD (room_u hr)) (ev_var 4) ev_int) (wv_and1 (tv_cmp (opd_eqD (room_u hr)) (ev_var 0) (ev_var 7)))))))))) (λ _ _ _ _=>(ev_var 0)) sc_q11.nd)) (xs_one (x_app 9 (ev_callTS calls_tuple rfl m_tuple boot_tuple (sq_var 12)))))) (hp:=po1 ⟨rfl,rfl,rfl⟩)) (xs_one (x_app 4 (ev_tup (av_cons (ev_callTS calls_tuple rfl m_tuple boot_tuple (sq_var 6)) (av_cons (ev_callTS calls_tuple rfl m_tuple boot_tuple (sq_var 9)) av_nil))))))))) (hp:=po1 ⟨rfl,rfl,rfl⟩)) (xs_one (x_ret (ev_callTS calls_tuple rfl m_tuple boot_tuple (sq_var 4)))))))
noncomputable abbrev s_q4:Stmt:=top 25
noncomputable abbrev ps_q4:List Str:=["_law_seed","_law_left"]
theorem sc_q4:FnScope N_q4 ps_q4 (defScope s_q4):=⟨rfl,rfl,rfl,by decide +kernel,rfl,by decide +kernel,by decide +kernel⟩
theorem ok_q4 {P:Program} {w:World} {K:PySem.W.Frag} {mg:Str->Option Value} {base:Heap} {k:Nat} {a:Addr} {fd:FuncData} (Df:Def K mg "_law_saying" s_q4 ps_q4 a fd)
    {M_q13:List D->R D} {a_q13:Addr} {fd_q13:FuncData} (D_q13:Def K mg "_law_mix" s_q13 ps_q13 a_q13 fd_q13) (F_q13:FnOk P w K mg base (CX1 P w) k a_q13 fd_q13 ps_q13 (spF K mg ps_q13.length M_q13))
    {M_q4:List D->R D} (F_q4:FnOk P w K mg base (CX1 P w) k a fd ps_q4 (spF K mg ps_q4.length M_q4))
   :FnOk P w K mg base (CX1 P w) (k + 1) a fd ps_q4 (spF K mg ps_q4.length λ ds=>callR N_q4 (B_q4 M_q13 M_q4) ds) :=
  fn_R1 Df.fn sc_q4 λ cdv A outer s H W E hr=>(xs_cons (x_set 2 (ev_call F_q13 (pw1 ⟨rfl,rfl,rfl⟩) hr rfl D_q13.mg D_q13.fn.kp D_q13.bd (av_cons (ev_var 0) (av_cons ev_int (av_cons ev_int av_nil)))) sc_q4.nd) (xs_cons (x_if (WvD.tv (wv_or (tv_cmp (opd_eqD (room_u hr)) (ev_var 1) ev_int) (wv_or1 (tv_cmp opd_lt (ev_var 2) ev_int)))) (xs_one (x_ret (ev_tup (av_cons ev_str (av_cons (ev_ixS (sq_ow (ow_lst (av_cons ev_str (av_cons ev_str (av_cons ev_str av_nil))))) (ev_call F_q13 (pw1 ⟨rfl,rfl,rfl⟩) hr rfl D_q13.mg D_q13.fn.kp D_q13.bd (av_cons (ev_var 0) (av_cons ev_int (av_cons ev_int av_nil))))) av_nil))))) xs_nil) (xs_cons (x_set 3 (ev_call F_q4 (pw1 ⟨rfl,rfl,rfl⟩) hr rfl Df.mg Df.fn.kp Df.bd (av_cons (ev_op opd_addD (ev_op opd_mul (ev_var 0) ev_int) ev_int) (av_cons (ev_op opd_sub (ev_var 1) ev_int) av_nil))) sc_q4.nd) (xs_cons (x_if (tv_cmp opd_lt (ev_var 2) ev_int) (xs_one (x_ret (ev_tup (av_cons ev_str (av_cons (ev_var 3) av_nil))))) xs_nil) (xs_cons (x_if (tv_cmp opd_lt (ev_var 2) ev_int) (xs_one (x_ret (ev_tup (av_cons (ev_ixS (sq_ow (ow_lst (av_cons ev_str (av_cons ev_str av_nil)))) (ev_call F_q13 (pw1 ⟨rfl,rfl,rfl⟩) hr rfl D_q13.mg D_q13.fn.kp D_q13.bd (av_cons (ev_var 0) (av_cons ev_int (av_cons ev_int av_nil))))) (av_cons (ev_var 3) (av_cons (ev_call F_q4 (pw1 ⟨rfl,rfl,rfl⟩) hr rfl Df.mg Df.fn.kp Df.bd (av_cons (ev_op opd_addD (ev_op opd_mul (ev_var 0) ev_int) ev_int) (av_cons (ev_op opd_sub (ev_var 1) ev_int) av_nil))) av_nil)))))) xs_nil) (xs_one (x_ret (ev_tup (av_cons (ev_ixS (sq_ow (ow_lst (av_cons ev_str (av_cons ev_str av_nil)))) (ev_call F_q13 (pw1 ⟨rfl,rfl,rfl⟩) hr rfl D_q13.mg D_q13.fn.kp D_q13.bd (av_cons (ev_var 0) (av_cons ev_int (av_cons ev_int av_nil))))) (av_cons (ev_call F_q13 (pw1 ⟨rfl,rfl,rfl⟩) hr rfl D_q13.mg D_q13.fn.kp D_q13.bd (av_cons (ev_var 0) (av_cons ev_int (av_cons ev_int av_nil)))) (av_cons (ev_var 3) av_nil)))))))))))
noncomputable abbrev s_q10:Stmt:=top 17
noncomputable abbrev ps_q10:List Str:=["row","places"]
theorem sc_q10:FnScope N_q10 ps_q10 (defScope s_q10):=⟨rfl,rfl,rfl,by decide +kernel,rfl,by decide +kernel,by decide +kernel⟩
theorem ok_q10 {P:Program} {w:World} {K:PySem.W.Frag} {mg:Str->Option Value} {base:Heap} {k:Nat} {a:Addr} {fd:FuncData} (Df:Def K mg "moved_row" s_q10 ps_q10 a fd)
    (m_tuple:mg "tuple"=none)
    (m_sorted:mg "sorted"=none)
    (m_set:mg "set"=none)
   :FnOk P w K mg base (CX1 P w) (k + 1) a fd ps_q10 (spK K w [false,true] λ ds=>callK w [false,true] N_q10 (B_q10 w) ds) :=
  fn_K1 Df.fn sc_q10 rfl λ cdv A outer s H W E hr=>(xs_one (x_ret (ev_callTS calls_tuple rfl m_tuple boot_tuple (sq_ow (ow_sortset rfl rfl m_sorted rfl m_set (sq_ow (ow_comp (blk_mk (defScope s_q10) N_q10 ["places"] rfl rfl rfl rfl (List.forall_mem_cons.mpr ⟨rfl,(List.forall_mem_nil _)⟩) (by decide +kernel)) rfl (it_tup (ev_var 0)) (λ _ _ _ _=>(ts_one (tv_inD (room_u hr) (ev_var 0) (di_var 3)))) (λ _ _ _ _=>(ev_ixD (room_u hr) (di_var 3) (ev_var 0))))))))))
noncomputable abbrev s_q3:Stmt:=top 18
noncomputable abbrev ps_q3:List Str:=["world","places"]
theorem sc_q3:FnScope N_q3 ps_q3 (defScope s_q3):=⟨rfl,rfl,rfl,by decide +kernel,rfl,by decide +kernel,by decide +kernel⟩
theorem ok_q3 {P:Program} {w:World} {K:PySem.W.Frag} {mg:Str->Option Value} {base:Heap} {k:Nat} {a:Addr} {fd:FuncData} (Df:Def K mg "moved_world" s_q3 ps_q3 a fd)
    {M_q10:List D->R D} {a_q10:Addr} {fd_q10:FuncData} (D_q10:Def K mg "moved_row" s_q10 ps_q10 a_q10 fd_q10) (F_q10:FnOk P w K mg base (CX1 P w) k a_q10 fd_q10 ps_q10 (spK K w [false,true] M_q10))
    (m_tuple:mg "tuple"=none)
   :FnOk P w K mg base (CX1 P w) (k + 1) a fd ps_q3 (spK K w [false,true] λ ds=>callK w [false,true] N_q3 (B_q3 w M_q10) ds) :=
  fn_K1 Df.fn sc_q3 rfl λ cdv A outer s H W E hr=>(xs_one (x_ret (ev_tup (av_cons (ev_ix (ev_var 0) ev_int) (av_cons (ev_callTS calls_tuple rfl m_tuple boot_tuple (sq_ow (ow_comp (blk_mk (defScope s_q3) N_q3 ["places"] rfl rfl rfl rfl (List.forall_mem_cons.mpr ⟨rfl,(List.forall_mem_nil _)⟩) (by decide +kernel)) rfl (it_tup (ev_ix (ev_var 0) ev_int)) (λ _ _ _ _=>ts_nil) (λ _ _ _ _=>(ev_callK F_q10 pwB hr rfl D_q10.mg D_q10.fn.kp D_q10.bd (ak_ev (ev_var 0) (ak_di (di_var 3) ak_nil))))))) av_nil)))))
noncomputable abbrev s_q22:Stmt:=top 19
noncomputable abbrev ps_q22:List Str:=["yard","kept","places"]
theorem sc_q22:FnScope N_q22 ps_q22 (defScope s_q22):=⟨rfl,rfl,rfl,by decide +kernel,rfl,by decide +kernel,by decide +kernel⟩
theorem ok_q22 {P:Program} {w:World} {K:PySem.W.Frag} {mg:Str->Option Value} {base:Heap} {k:Nat} {a:Addr} {fd:FuncData} (Df:Def K mg "moved" s_q22 ps_q22 a fd)
    {M_q3:List D->R D} {a_q3:Addr} {fd_q3:FuncData} (D_q3:Def K mg "moved_world" s_q3 ps_q3 a_q3 fd_q3) (F_q3:FnOk P w K mg base (CX1 P w) k a_q3 fd_q3 ps_q3 (spK K w [false,true] M_q3))
    (m_tuple:mg "tuple"=none)
   :FnOk P w K mg base (CX1 P w) (k + 1) a fd ps_q22 (spK K w [false,false,true] λ ds=>callK w [false,false,true] N_q22 (B_q22 w M_q3) ds) :=
  fn_K1 Df.fn sc_q22 rfl λ cdv A outer s H W E hr=>(xs_one (x_ret (ev_callTS calls_tuple rfl m_tuple boot_tuple (sq_ow (ow_comp (blk_mk (defScope s_q22) N_q22 ["places","yard"] rfl rfl rfl rfl (List.forall_mem_cons.mpr ⟨rfl,(List.forall_mem_cons.mpr ⟨rfl,(List.forall_mem_nil _)⟩)⟩) (by decide +kernel)) rfl (it_list (ev_var 1)) (λ _ _ _ _=>ts_nil) (λ _ _ _ _=>(ev_callK F_q3 pwB hr rfl D_q3.mg D_q3.fn.kp D_q3.bd (ak_ev (ev_ix (ev_var 2) (ev_var 0)) (ak_di (di_var 4) ak_nil)))))))))
noncomputable abbrev s_q0:Stmt:=top 20
noncomputable abbrev ps_q0:List Str:=["yard","kept"]
theorem sc_q0:FnScope N_q0 ps_q0 (defScope s_q0):=⟨rfl,rfl,rfl,by decide +kernel,rfl,by decide +kernel,by decide +kernel⟩
theorem ok_q0 {P:Program} {w:World} {K:PySem.W.Frag} {mg:Str->Option Value} {base:Heap} {k:Nat} {a:Addr} {fd:FuncData} (Df:Def K mg "numbered_anew" s_q0 ps_q0 a fd)
    {M_q22:List D->R D} {a_q22:Addr} {fd_q22:FuncData} (D_q22:Def K mg "moved" s_q22 ps_q22 a_q22 fd_q22) (F_q22:FnOk P w K mg base (CX1 P w) k a_q22 fd_q22 ps_q22 (spK K w [false,false,true] M_q22))
    (m_dict:mg "dict"=none)
    (m_enumerate:mg "enumerate"=none)
   :FnOk P w K mg base (CX1 P w) (k + 1) a fd ps_q0 (spF K mg ps_q0.length λ ds=>callR N_q0 (B_q0 w M_q22) ds) :=
  fn_R1 Df.fn sc_q0 λ cdv A outer s H W E hr=>(xs_cons (x_setD 2 (od_pairs rfl (room_u hr) rfl m_dict (sq_ow (ow_comp2 (blk_mk2 (defScope s_q0) N_q0 [] rfl rfl rfl rfl (List.forall_mem_nil _) (by decide +kernel)) rfl (it_enum rfl m_enumerate (ev_var 1)) (λ _ _ _ _=>ts_nil) (λ _ _ _ _=>(ev_tup (av_cons (ev_var 1) (av_cons (ev_var 0) av_nil))))))) sc_q0.nd) (xs_one (x_ret (ev_callK F_q22 (pw1 ⟨rfl,rfl,rfl⟩) hr rfl D_q22.mg D_q22.fn.kp D_q22.bd (ak_ev (ev_var 0) (ak_ev (ev_var 1) (ak_di (di_var 2) ak_nil)))))))
noncomputable abbrev s_q21:Stmt:=top 6
noncomputable abbrev ps_q21:List Str:=["saying"]
theorem sc_q21:FnScope N_q21 ps_q21 (defScope s_q21):=⟨rfl,rfl,rfl,by decide +kernel,rfl,by decide +kernel,by decide +kernel⟩
theorem ok_q21 {P:Program} {w:World} {K:PySem.W.Frag} {mg:Str->Option Value} {base:Heap} {k:Nat} {a:Addr} {fd:FuncData} (Df:Def K mg "parts" s_q21 ps_q21 a fd)
   :FnOk P w K mg base (CX1 P w) (k + 1) a fd ps_q21 (spF K mg ps_q21.length λ ds=>callR N_q21 (B_q21) ds) :=
  fn_R1 Df.fn sc_q21 λ cdv A outer s H W E hr=>(xs_cons (x_set 1 (ev_ix (ev_var 0) ev_int) sc_q21.nd) (xs_cons (x_if (tv_cmp (opd_eqD (room_u hr)) (ev_var 1) ev_str) (xs_one (x_ret (ev_tup av_nil))) xs_nil) (xs_cons (x_if (WvD.tv (wv_or (tv_cmp (opd_eqD (room_u hr)) (ev_var 1) ev_str) (wv_or1 (tv_cmp (opd_eqD (room_u hr)) (ev_var 1) ev_str)))) (xs_one (x_ret (ev_slA (ev_var 0) (ov_some ev_int) ov_none))) xs_nil) (xs_one (x_ret (ev_slA (ev_var 0) (ov_some ev_int) ov_none))))))
noncomputable abbrev s_q16:Stmt:=top 8
noncomputable abbrev ps_q16:List Str:=["saying"]
theorem sc_q16:FnScope N_q16 ps_q16 (defScope s_q16):=⟨rfl,rfl,rfl,by decide +kernel,rfl,by decide +kernel,by decide +kernel⟩
theorem ok_q16 {P:Program} {w:World} {K:PySem.W.Frag} {mg:Str->Option Value} {base:Heap} {k:Nat} {a:Addr} {fd:FuncData} (Df:Def K mg "walked" s_q16 ps_q16 a fd)
    {M_q21:List D->R D} {a_q21:Addr} {fd_q21:FuncData} (D_q21:Def K mg "parts" s_q21 ps_q21 a_q21 fd_q21) (F_q21:FnOk P w K mg base (CX1 P w) k a_q21 fd_q21 ps_q21 (spF K mg ps_q21.length M_q21))
    (m_len:mg "len"=none)
   :FnOk P w K mg base (CX1 P w) (k + 1) a fd ps_q16 (spF K mg ps_q16.length λ ds=>callR N_q16 (B_q16 M_q21) ds) :=
  fn_R1 Df.fn sc_q16 λ cdv A outer s H W E hr=>(xs_cons (x_setO 1 (ow_lst av_nil) sc_q16.nd) (xs_cons (x_setO 2 (ow_lst (av_cons (ev_var 0) av_nil)) sc_q16.nd) (xs_cons (x_while (tv_cmp opd_gt (ev_callBS calls_len rfl m_len PySem.boot_len (sq_var 2)) ev_int) (xs_cons (x_pop 2 3 sc_q16.nd) (xs_cons (x_app 1 (ev_var 3)) (xs_one (x_ext 2 (sq_ev (ev_revT (ev_call F_q21 (pw1 ⟨rfl,rfl,rfl⟩) hr rfl D_q21.mg D_q21.fn.kp D_q21.bd (av_cons (ev_var 3) av_nil)))))))) (hp:=po1 ⟨rfl,rfl,rfl⟩)) (xs_one (x_retO 1)))))
noncomputable abbrev s_q12:Stmt:=top 9
noncomputable abbrev ps_q12:List Str:=["saying","tell"]
theorem sc_q12:FnScope N_q12 ps_q12 (defScope s_q12):=⟨rfl,rfl,rfl,by decide +kernel,rfl,by decide +kernel,by decide +kernel⟩
theorem ok_q12 {P:Program} {w:World} {K:PySem.W.Frag} {mg:Str->Option Value} {base:Heap} {k:Nat} {a:Addr} {fd:FuncData} (Df:Def K mg "gathered" s_q12 ps_q12 a fd)
    {M_q16:List D->R D} {a_q16:Addr} {fd_q16:FuncData} (D_q16:Def K mg "walked" s_q16 ps_q16 a_q16 fd_q16) (F_q16:FnOk P w K mg base (CX1 P w) k a_q16 fd_q16 ps_q16 (spF K mg ps_q16.length M_q16))
    {M_q21:List D->R D} {a_q21:Addr} {fd_q21:FuncData} (D_q21:Def K mg "parts" s_q21 ps_q21 a_q21 fd_q21) (F_q21:FnOk P w K mg base (CX1 P w) k a_q21 fd_q21 ps_q21 (spF K mg ps_q21.length M_q21))
    {M_tell:List D->R D} {a_tell:Addr} {φ_tell:Hp->Prop} {fd_tell:FuncData} {ps_tell:List Str} (hφ_tell:∀ G1 G2,Same G1 G2->φ_tell G1->φ_tell G2) (F_tell:FnOk P w K mg base (CX1 P w) k a_tell fd_tell ps_tell (spC K ps_tell.length φ_tell M_tell)) (hat_tell:PySem.W.FnAt a_tell base) (bd_tell:Binds K fd_tell ps_tell []) (hn_tell:2=ps_tell.length)
    (m_reversed:mg "reversed"=none)
   :FnOk P w K mg base (CX1 P w) (k + 1) a fd ps_q12 (spN K ps_q12.length 1 a_tell φ_tell λ ds=>callN N_q12 1 (B_q12 a_tell φ_tell M_tell M_q16 M_q21) a_tell φ_tell ds) :=
  fn_N1 hφ_tell Df.fn sc_q12 λ cdv A outer s H W E hr=>(xs_cons (x_setO 2 (ow_lst av_nil) sc_q12.nd) (xs_cons (x_for rfl (it_rev rfl m_reversed (ev_call F_q16 (pw1 ⟨rfl,rfl,rfl⟩) hr rfl D_q16.mg D_q16.fn.kp D_q16.bd (av_cons (ev_var 0) av_nil))) (tg_name 3 sc_q12.nd) (xs_cons (x_setCompM 4 (blk_mk (defScope s_q12) N_q12 ["ready"] rfl rfl rfl rfl (List.forall_mem_cons.mpr ⟨rfl,(List.forall_mem_nil _)⟩) (by decide +kernel)) rfl (it_tup (ev_call F_q21 (pw1 ⟨rfl,rfl,rfl⟩) hr rfl D_q21.mg D_q21.fn.kp D_q21.bd (av_cons (ev_var 3) av_nil))) (λ _ _ _ _=>(em_pop 4)) sc_q12.nd) (xs_one (x_frz 4 (x_app 2 (ev_callV F_tell (pw1 ⟨rfl,rfl,rfl⟩) hr hat_tell bd_tell (av_cons (ev_var 3) (av_cons (ev_var 4) av_nil)) hn_tell))))) (hp:=po1 ⟨rfl,rfl,rfl⟩)) (xs_one (x_retM (em_pop 2)))))
noncomputable abbrev s_q17:Stmt:=top 11
noncomputable abbrev ps_q17:List Str:=["world","kind","row"]
theorem sc_q17:FnScope N_q17 ps_q17 (defScope s_q17):=⟨rfl,rfl,rfl,by decide +kernel,rfl,by decide +kernel,by decide +kernel⟩
theorem ok_q17 {P:Program} {w:World} {K:PySem.W.Frag} {mg:Str->Option Value} {base:Heap} {k:Nat} {a:Addr} {fd:FuncData} (Df:Def K mg "led_to" s_q17 ps_q17 a fd)
   :FnOk P w K mg base (CX1 P w) (k + 1) a fd ps_q17 (spF K mg ps_q17.length λ ds=>callR N_q17 (B_q17) ds) :=
  fn_R1 Df.fn sc_q17 λ cdv A outer s H W E hr=>(xs_one (x_ret (ev_ow (ow_comp (blk_mk (defScope s_q17) N_q17 ["row"] rfl rfl rfl rfl (List.forall_mem_cons.mpr ⟨rfl,(List.forall_mem_nil _)⟩) (by decide +kernel)) rfl (it_tup (ev_ix (ev_ix (ev_var 0) ev_int) (ev_var 1))) (λ _ _ _ _=>ts_nil) (λ _ _ _ _=>(ev_ix (ev_var 4) (ev_var 0)))))))
noncomputable abbrev s_q19:Stmt:=top 12
noncomputable abbrev ps_q19:List Str:=["yard","saying","rows"]
theorem sc_q19:FnScope N_q19 ps_q19 (defScope s_q19):=⟨rfl,rfl,rfl,by decide +kernel,rfl,by decide +kernel,by decide +kernel⟩
theorem ok_q19 {P:Program} {w:World} {K:PySem.W.Frag} {mg:Str->Option Value} {base:Heap} {k:Nat} {a:Addr} {fd:FuncData} (Df:Def K mg "row_of" s_q19 ps_q19 a fd)
    {M_q17:List D->R D} {a_q17:Addr} {fd_q17:FuncData} (D_q17:Def K mg "led_to" s_q17 ps_q17 a_q17 fd_q17) (F_q17:FnOk P w K mg base (CX1 P w) k a_q17 fd_q17 ps_q17 (spF K mg ps_q17.length M_q17))
    (m_zip:mg "zip"=none)
    (m_all:mg "all"=none)
    (m_any:mg "any"=none)
   :FnOk P w K mg base (CX1 P w) (k + 1) a fd ps_q19 (spF K mg ps_q19.length λ ds=>callR N_q19 (B_q19 M_q17) ds) :=
  fn_R1 Df.fn sc_q19 λ cdv A outer s H W E hr=>(xs_cons (x_set 3 (ev_ix (ev_var 1) ev_int) sc_q19.nd) (xs_cons (x_if (tv_cmp (opd_eqD (room_u hr)) (ev_var 3) ev_str) (xs_one (x_ret (ev_ow (ow_comp (blk_mk (defScope s_q19) N_q19 ["saying"] rfl rfl rfl rfl (List.forall_mem_cons.mpr ⟨rfl,(List.forall_mem_nil _)⟩) (by decide +kernel)) rfl (it_tup (ev_var 0)) (λ _ _ _ _=>ts_nil) (λ _ _ _ _=>(ev_cmp (opd_memA (room_u hr)) (ev_ix (ev_var 3) ev_int) (ev_ix (ev_var 0) ev_int))))))) xs_nil) (xs_cons (x_if (tv_cmp (opd_eqD (room_u hr)) (ev_var 3) ev_str) (xs_one (x_ret (ev_ow (ow_comp (blk_mk (defScope s_q19) N_q19 [] rfl rfl rfl rfl (List.forall_mem_nil _) (by decide +kernel)) rfl (it_list (ev_ix (ev_var 2) ev_int)) (λ _ _ _ _=>ts_nil) (λ _ _ _ _=>(ev_not (ev_var 0))))))) xs_nil) (xs_cons (x_if (tv_cmp (opd_eqD (room_u hr)) (ev_var 3) ev_str) (xs_one (x_ret (ev_ow (ow_comp2 (blk_mk2 (defScope s_q19) N_q19 [] rfl rfl rfl rfl (List.forall_mem_nil _) (by decide +kernel)) rfl (it_zip rfl m_zip (av_cons (ev_ix (ev_var 2) ev_int) (av_cons (ev_ix (ev_var 2) ev_int) av_nil))) (λ _ _ _ _=>ts_nil) (λ _ _ _ _=>(ev_and (ev_var 0) (ev_one (ev_var 1)))))))) xs_nil) (xs_cons (x_if (tv_cmp (opd_eqD (room_u hr)) (ev_var 3) ev_str) (xs_one (x_ret (ev_ow (ow_comp2 (blk_mk2 (defScope s_q19) N_q19 [] rfl rfl rfl rfl (List.forall_mem_nil _) (by decide +kernel)) rfl (it_zip rfl m_zip (av_cons (ev_ix (ev_var 2) ev_int) (av_cons (ev_ix (ev_var 2) ev_int) av_nil))) (λ _ _ _ _=>ts_nil) (λ _ _ _ _=>(ev_or (ev_var 0) (ev_one (ev_var 1)))))))) xs_nil) (xs_cons (x_if (tv_cmp (opd_eqD (room_u hr)) (ev_var 3) ev_str) (xs_one (x_ret (ev_ow (ow_comp (blk_mk (defScope s_q19) N_q19 ["rows","saying"] rfl rfl rfl rfl (List.forall_mem_cons.mpr ⟨rfl,(List.forall_mem_cons.mpr ⟨rfl,(List.forall_mem_nil _)⟩)⟩) (by decide +kernel)) rfl (it_tup (ev_var 0)) (λ _ _ _ _=>ts_nil) (λ _ _ _ _=>(ev_callBS (calls_all rfl) rfl m_all boot_all (sq_ev (ev_call F_q17 pwB hr rfl D_q17.mg D_q17.fn.kp D_q17.bd (av_cons (ev_var 0) (av_cons (ev_ix (ev_var 3) ev_int) (av_cons (ev_ix (ev_var 4) ev_int) av_nil))))))))))) xs_nil) (xs_one (x_ret (ev_ow (ow_comp (blk_mk (defScope s_q19) N_q19 ["rows","saying"] rfl rfl rfl rfl (List.forall_mem_cons.mpr ⟨rfl,(List.forall_mem_cons.mpr ⟨rfl,(List.forall_mem_nil _)⟩)⟩) (by decide +kernel)) rfl (it_tup (ev_var 0)) (λ _ _ _ _=>ts_nil) (λ _ _ _ _=>(ev_callBS (calls_any rfl) rfl m_any boot_any (sq_ev (ev_call F_q17 pwB hr rfl D_q17.mg D_q17.fn.kp D_q17.bd (av_cons (ev_var 0) (av_cons (ev_ix (ev_var 3) ev_int) (av_cons (ev_ix (ev_var 4) ev_int) av_nil)))))))))))))))))
noncomputable abbrev s_q18:Stmt:=top 13
noncomputable abbrev ps_q18:List Str:=["yard","saying"]
theorem sc_q18:FnScope N_q18 ps_q18 (defScope s_q18):=⟨rfl,rfl,rfl,by decide +kernel,rfl,by decide +kernel,by decide +kernel⟩
theorem ok_q18 {P:Program} {w:World} {K:PySem.W.Frag} {mg:Str->Option Value} {base:Heap} {k:Nat} {a:Addr} {fd:FuncData} (Df:Def K mg "truths" s_q18 ps_q18 a fd)
    {M_q19:List D->R D} {a_q19:Addr} {fd_q19:FuncData} (D_q19:Def K mg "row_of" s_q19 ps_q19 a_q19 fd_q19) (F_q19:∀ base,Bas K mg base->FnOk P w K mg base (CX1 P w) k a_q19 fd_q19 ps_q19 (spF K mg ps_q19.length M_q19))
    {M_q16:List D->R D} {a_q16:Addr} {fd_q16:FuncData} (D_q16:Def K mg "walked" s_q16 ps_q16 a_q16 fd_q16) (F_q16:∀ base,Bas K mg base->FnOk P w K mg base (CX1 P w) k a_q16 fd_q16 ps_q16 (spF K mg ps_q16.length M_q16))
    {M_q21:List D->R D} {a_q21:Addr} {fd_q21:FuncData} (D_q21:Def K mg "parts" s_q21 ps_q21 a_q21 fd_q21) (F_q21:∀ base,Bas K mg base->FnOk P w K mg base (CX1 P w) k a_q21 fd_q21 ps_q21 (spF K mg ps_q21.length M_q21))
    {a_q12:Addr} {fd_q12:FuncData} (D_q12:Def K mg "gathered" s_q12 ps_q12 a_q12 fd_q12) {ca cP:Addr} (tb:PySem.W.tabIn K "truths"=some (ca,cP)) (hcd:fd.code=.ref ca) (bas:Bas K mg base)
    (m_reversed:mg "reversed"=none)
   :FnOk P w K mg base (CX1 P w) (k + 3) a fd ps_q18 (spF K mg ps_q18.length λ ds=>callR N_q18 (B_q18 M_q19 M_q16 M_q21) ds) :=
  fn_R1c Df.fn sc_q18 λ cdv hcode A outer s H W E hr=>(xs_one (x_ret (ev_callL (Fm:=MI_q18 M_q19 M_q16 M_q21) 0 bas (by decide) tb (hcode.symm.trans hcd) (pw1 ⟨rfl,rfl,rfl⟩) hr rfl D_q12.mg D_q12.fn.kp D_q12.bd (λ base fa c1 q1 pm ct u v d bas ho hcell ru=>(ok_q12 (base:=base) (k:=k + 1) (ps_tell:=["part","rows"]) (φ_tell:=lamPhi K d v c1 q1) D_q12 D_q16 ((F_q16 base bas).mono (by omega)) D_q21 ((F_q21 base bas).mono (by omega)) lamPhi_up (fn_L1 (k:=k) (q:=q1) (y:="yard") (ps:=["part","rows"]) ho hcell ru ⟨rfl,rfl,rfl,by decide +kernel,by decide +kernel,by decide +kernel,rfl,by decide +kernel⟩ λ A outer s H W E hr=>(ev_call (F_q19 base bas) (pw1 ⟨rfl,rfl,rfl⟩) hr rfl D_q19.mg D_q19.fn.kp D_q19.bd (av_cons (ev_var 2) (av_cons (ev_var 0) (av_cons (ev_var 1) av_nil))))) ⟨_,_,_,_,ho⟩ (Binds.all λ us hl=>match us,hl with | [_,_],_=>rfl) rfl m_reversed).imp λ vs H Q E h=>spN_par1 (F:=λ a φ ds=>callN N_q12 1 (B_q12 a φ (ML_q18 M_q19 d) M_q16 M_q21) a φ ds) h) (ev_var 1))))
noncomputable abbrev s_q6:Stmt:=top 21
noncomputable abbrev ps_q6:List Str:=["yard","saying"]
theorem sc_q6:FnScope N_q6 ps_q6 (defScope s_q6):=⟨rfl,rfl,rfl,by decide +kernel,rfl,by decide +kernel,by decide +kernel⟩
theorem ok_q6 {P:Program} {w:World} {K:PySem.W.Frag} {mg:Str->Option Value} {base:Heap} {k:Nat} {a:Addr} {fd:FuncData} (Df:Def K mg "told_to_all" s_q6 ps_q6 a fd)
    {M_q18:List D->R D} {a_q18:Addr} {fd_q18:FuncData} (D_q18:Def K mg "truths" s_q18 ps_q18 a_q18 fd_q18) (F_q18:FnOk P w K mg base (CX1 P w) k a_q18 fd_q18 ps_q18 (spF K mg ps_q18.length M_q18))
    {M_q0:List D->R D} {a_q0:Addr} {fd_q0:FuncData} (D_q0:Def K mg "numbered_anew" s_q0 ps_q0 a_q0 fd_q0) (F_q0:FnOk P w K mg base (CX1 P w) k a_q0 fd_q0 ps_q0 (spF K mg ps_q0.length M_q0))
    (m_enumerate:mg "enumerate"=none)
    (m_len:mg "len"=none)
    {C_NoWorld:Addr}
    {bm_NoWorld:List Value}
    (X_NoWorld:XCls K "NoWorld" C_NoWorld bm_NoWorld)
   :FnOk P w K mg base (CX1 P w) (k + 1) a fd ps_q6 (spF K mg ps_q6.length λ ds=>callR N_q6 (B_q6 M_q18 M_q0) ds) :=
  fn_R1 Df.fn sc_q6 λ cdv A outer s H W E hr=>(xs_cons (x_freeze (x_setComp2 2 (blk_mk2 (defScope s_q6) N_q6 [] rfl rfl rfl rfl (List.forall_mem_nil _) (by decide +kernel)) rfl (it_enum rfl m_enumerate (ev_call F_q18 (pw1 ⟨rfl,rfl,rfl⟩) hr rfl D_q18.mg D_q18.fn.kp D_q18.bd (av_cons (ev_var 0) (av_cons (ev_var 1) av_nil)))) (λ _ _ _ _=>(ts_one (tv_val (ev_var 1)))) (λ _ _ _ _=>(ev_var 0)) sc_q6.nd)) (xs_cons (x_if (tv_cmp (opd_eqD (room_u hr)) (ev_callB calld_len rfl m_len PySem.boot_len (av_cons (ev_var 2) av_nil)) ev_int) (xs_one (x_raise ⟨rfl,rfl,rfl⟩ X_NoWorld rfl rfl (av_cons ev_str av_nil))) xs_nil) (xs_one (x_ret (ev_call F_q0 (pw1 ⟨rfl,rfl,rfl⟩) hr rfl D_q0.mg D_q0.fn.kp D_q0.bd (av_cons (ev_var 0) (av_cons (ev_var 2) av_nil)))))))
noncomputable def M_q1:List D->R D:=λ ds=>callR N_q1 (B_q1 M_q6) ds
noncomputable abbrev s_q1:Stmt:=top 29
noncomputable abbrev ps_q1:List Str:=["_law_yard_here","_law_saying_here"]
theorem sc_q1:FnScope N_q1 ps_q1 (defScope s_q1):=⟨rfl,rfl,rfl,by decide +kernel,rfl,by decide +kernel,by decide +kernel⟩
theorem ok_q1 {P:Program} {w:World} {K:PySem.W.Frag} {mg:Str->Option Value} {base:Heap} {k:Nat} {a:Addr} {fd:FuncData} (Df:Def K mg "_law_refused" s_q1 ps_q1 a fd)
    {M_q6:List D->R D} {a_q6:Addr} {fd_q6:FuncData} (D_q6:Def K mg "told_to_all" s_q6 ps_q6 a_q6 fd_q6) (F_q6:FnOk P w K mg base (CX1 P w) k a_q6 fd_q6 ps_q6 (spF K mg ps_q6.length M_q6))
    (m_isinstance:mg "isinstance"=none)
    (m_ValueError:mg "ValueError"=none)
    {C_YardError:Addr}
    {C_NoWorld:Addr}
    {bm_YardError:List Value}
    (X_YardError:XCls K "YardError" C_YardError bm_YardError)
    (T_YardError:Falls K (.ref C_YardError) t_YardError)
    (g_NoWorld:mg "NoWorld"=some (.ref C_NoWorld))
    (Y_ValueError:FallsY K (.ty "ValueError") y_ValueError)
    (Y_NoWorld:FallsY K (.ref C_NoWorld) y_NoWorld)
   :FnOk P w K mg base (CX1 P w) (k + 1) a fd ps_q1 (spF K mg ps_q1.length λ ds=>callR N_q1 (B_q1 M_q6) ds) :=
  fn_R1 Df.fn sc_q1 λ cdv A outer s H W E hr=>(xs_cons (x_set 2 ev_bl sc_q1.nd) (xs_cons (x_try ⟨rfl,rfl,rfl⟩ (λ pn W'=>(xs_one (x_expr (ev_call F_q6 (pw1 ⟨rfl,rfl,rfl⟩) hr rfl D_q6.mg D_q6.fn.kp D_q6.bd (av_cons (ev_var 0) (av_cons (ev_var 1) av_nil)))))) (h_named 3 ⟨rfl,rfl,rfl⟩ X_YardError rfl T_YardError (λ pn A=>(xs_one (x_set 2 (ev_and (ev_isx 3 rfl m_isinstance (pe_glob (v:=.ref C_NoWorld) rfl g_NoWorld rfl) Y_NoWorld boot_isinstance) (ev_one (ev_isx 3 rfl m_isinstance (pe_bltn (v:=.ty "ValueError") rfl m_ValueError boot_ValueError rfl) Y_ValueError boot_isinstance))) sc_q1.nd))) sc_q1.nd)) (xs_one (x_ret (ev_var 2)))))
noncomputable abbrev s_q7:Stmt:=top 27
noncomputable abbrev ps_q7:List Str:=["_law_yard_here","_law_world","_law_saying_here"]
theorem sc_q7:FnScope N_q7 ps_q7 (defScope s_q7):=⟨rfl,rfl,rfl,by decide +kernel,rfl,by decide +kernel,by decide +kernel⟩
theorem ok_q7 {P:Program} {w:World} {K:PySem.W.Frag} {mg:Str->Option Value} {base:Heap} {k:Nat} {a:Addr} {fd:FuncData} (Df:Def K mg "_law_holds" s_q7 ps_q7 a fd)
    {M_q7:List D->R D} (F_q7:FnOk P w K mg base (CX1 P w) k a fd ps_q7 (spF K mg ps_q7.length M_q7))
   :FnOk P w K mg base (CX1 P w) (k + 1) a fd ps_q7 (spF K mg ps_q7.length λ ds=>callR N_q7 (B_q7 M_q7) ds) :=
  fn_R1 Df.fn sc_q7 λ cdv A outer s H W E hr=>(xs_cons (x_if (tv_cmp (opd_eqD (room_u hr)) (ev_ix (ev_var 2) ev_int) ev_str) (xs_one (x_ret (ev_cmp (opd_memA (room_u hr)) (ev_ix (ev_var 2) ev_int) (ev_ix (ev_ix (ev_var 0) (ev_var 1)) ev_int)))) xs_nil) (xs_cons (x_if (tv_cmp (opd_eqD (room_u hr)) (ev_ix (ev_var 2) ev_int) ev_str) (xs_one (x_ret (ev_not (ev_call F_q7 (pw1 ⟨rfl,rfl,rfl⟩) hr rfl Df.mg Df.fn.kp Df.bd (av_cons (ev_var 0) (av_cons (ev_var 1) (av_cons (ev_ix (ev_var 2) ev_int) av_nil))))))) xs_nil) (xs_cons (x_if (tv_cmp (opd_eqD (room_u hr)) (ev_ix (ev_var 2) ev_int) ev_str) (xs_one (x_ret (ev_and (ev_call F_q7 (pw1 ⟨rfl,rfl,rfl⟩) hr rfl Df.mg Df.fn.kp Df.bd (av_cons (ev_var 0) (av_cons (ev_var 1) (av_cons (ev_ix (ev_var 2) ev_int) av_nil)))) (ev_one (ev_call F_q7 (pw1 ⟨rfl,rfl,rfl⟩) hr rfl Df.mg Df.fn.kp Df.bd (av_cons (ev_var 0) (av_cons (ev_var 1) (av_cons (ev_ix (ev_var 2) ev_int) av_nil)))))))) xs_nil) (xs_cons (x_if (tv_cmp (opd_eqD (room_u hr)) (ev_ix (ev_var 2) ev_int) ev_str) (xs_one (x_ret (ev_or (ev_call F_q7 (pw1 ⟨rfl,rfl,rfl⟩) hr rfl Df.mg Df.fn.kp Df.bd (av_cons (ev_var 0) (av_cons (ev_var 1) (av_cons (ev_ix (ev_var 2) ev_int) av_nil)))) (ev_one (ev_call F_q7 (pw1 ⟨rfl,rfl,rfl⟩) hr rfl Df.mg Df.fn.kp Df.bd (av_cons (ev_var 0) (av_cons (ev_var 1) (av_cons (ev_ix (ev_var 2) ev_int) av_nil)))))))) xs_nil) (xs_cons (x_for rfl (it_tup (ev_ix (ev_ix (ev_ix (ev_var 0) (ev_var 1)) ev_int) (ev_ix (ev_var 2) ev_int))) (tg_name 3 sc_q7.nd) (xs_one (x_if (tv_cmp (opd_neD (room_u hr)) (ev_call F_q7 (pw1 ⟨rfl,rfl,rfl⟩) hr rfl Df.mg Df.fn.kp Df.bd (av_cons (ev_var 0) (av_cons (ev_var 3) (av_cons (ev_ix (ev_var 2) ev_int) av_nil)))) (ev_cmp (opd_eqD (room_u hr)) (ev_ix (ev_var 2) ev_int) ev_str)) (xs_one (x_ret (ev_cmp (opd_eqD (room_u hr)) (ev_ix (ev_var 2) ev_int) ev_str))) xs_nil)) (hp:=po1 ⟨rfl,rfl,rfl⟩)) (xs_one (x_ret (ev_cmp (opd_eqD (room_u hr)) (ev_ix (ev_var 2) ev_int) ev_str))))))))
noncomputable abbrev s_q2:Stmt:=top 28
noncomputable abbrev ps_q2:List Str:=["_law_yard_here"]
theorem sc_q2:FnScope N_q2 ps_q2 (defScope s_q2):=⟨rfl,rfl,rfl,by decide +kernel,rfl,by decide +kernel,by decide +kernel⟩
theorem ok_q2 {P:Program} {w:World} {K:PySem.W.Frag} {mg:Str->Option Value} {base:Heap} {k:Nat} {a:Addr} {fd:FuncData} (Df:Def K mg "_law_is_yard" s_q2 ps_q2 a fd)
    (m_len:mg "len"=none)
    (m_isinstance:mg "isinstance"=none)
    (m_tuple:mg "tuple"=none)
    (m_list:mg "list"=none)
    (m_sorted:mg "sorted"=none)
    (m_set:mg "set"=none)
    (m_all:mg "all"=none)
    (m_bool:mg "bool"=none)
    (m_int:mg "int"=none)
   :FnOk P w K mg base (CX1 P w) (k + 1) a fd ps_q2 (spF K mg ps_q2.length λ ds=>callR N_q2 (B_q2) ds) :=
  fn_R1 Df.fn sc_q2 λ cdv A outer s H W E hr=>(xs_cons (x_if (WvD.tv (wv_or (tv_not (tv_val (ev_isi (g:=gTuple) rfl m_isinstance rfl m_tuple boot_tuple (ev_var 0) (kit_tuple _) boot_isinstance))) (wv_or1 (tv_cmp (opd_eqD (room_u hr)) (ev_callB calld_len rfl m_len PySem.boot_len (av_cons (ev_var 0) av_nil)) ev_int)))) (xs_one (x_ret ev_bl)) xs_nil) (xs_cons (x_for rfl (it_tup (ev_var 0)) (tg_name 1 sc_q2.nd) (xs_cons (x_if (WvD.tv (wv_or (tv_not (tv_val (ev_isi (g:=gTuple) rfl m_isinstance rfl m_tuple boot_tuple (ev_var 1) (kit_tuple _) boot_isinstance))) (wv_or (tv_cmp (opd_neD (room_u hr)) (ev_callB calld_len rfl m_len PySem.boot_len (av_cons (ev_var 1) av_nil)) ev_int) (wv_or1 (tv_not (tv_val (ev_isi (g:=gTuple) rfl m_isinstance rfl m_tuple boot_tuple (ev_ix (ev_var 1) ev_int) (kit_tuple _) boot_isinstance))))))) (xs_one (x_ret ev_bl)) xs_nil) (xs_cons (x_if (WvD.tv (wv_or (tv_cmp (opd_neD (room_u hr)) (ev_ow (ow_list rfl m_list boot_list (sq_ev (ev_ix (ev_var 1) ev_int)))) (ev_ow (ow_sortset rfl rfl m_sorted rfl m_set (sq_ev (ev_ix (ev_var 1) ev_int))))) (wv_or (tv_not (tv_val (ev_isi (g:=gTuple) rfl m_isinstance rfl m_tuple boot_tuple (ev_ix (ev_var 1) ev_int) (kit_tuple _) boot_isinstance))) (wv_or1 (tv_cmp (opd_neD (room_u hr)) (ev_callB calld_len rfl m_len PySem.boot_len (av_cons (ev_ix (ev_var 1) ev_int) av_nil)) ev_int))))) (xs_one (x_ret ev_bl)) xs_nil) (xs_one (x_for rfl (it_tup (ev_ix (ev_var 1) ev_int)) (tg_name 2 sc_q2.nd) (xs_cons (x_if (WvD.tv (wv_or (tv_not (tv_val (ev_isi (g:=gTuple) rfl m_isinstance rfl m_tuple boot_tuple (ev_var 2) (kit_tuple _) boot_isinstance))) (wv_or1 (tv_cmp (opd_neD (room_u hr)) (ev_ow (ow_list rfl m_list boot_list (sq_var 2))) (ev_ow (ow_sortset rfl rfl m_sorted rfl m_set (sq_var 2))))))) (xs_one (x_ret ev_bl)) xs_nil) (xs_one (x_if (tv_not (tv_val (ev_callBS (calls_all rfl) rfl m_all boot_all (sq_ow (ow_comp (blk_mk (defScope s_q2) N_q2 ["_law_yard_here"] rfl rfl rfl rfl (List.forall_mem_cons.mpr ⟨rfl,(List.forall_mem_nil _)⟩) (by decide +kernel)) rfl (it_tup (ev_var 2)) (λ _ _ _ _=>ts_nil) (λ _ _ _ _=>(ev_and (ev_isi (g:=gInt) rfl m_isinstance rfl m_int boot_int (ev_var 0) (kit_int _) boot_isinstance) (ev_and (ev_not (ev_isi (g:=gBool) rfl m_isinstance rfl m_bool boot_bool (ev_var 0) (kit_bool _) boot_isinstance)) (ev_one (ev_chain opd_le opd_lt ev_int (ev_var 0) (ev_callB calld_len rfl m_len PySem.boot_len (av_cons (ev_var 2) av_nil)))))))))))) (xs_one (x_ret ev_bl)) xs_nil))) (hp:=po1 ⟨rfl,rfl,rfl⟩))))) (hp:=po1 ⟨rfl,rfl,rfl⟩)) (xs_one (x_ret ev_bl))))
noncomputable abbrev s_q15:Stmt:=top 4
noncomputable abbrev ps_q15:List Str:=["thing"]
theorem sc_q15:FnScope N_q15 ps_q15 (defScope s_q15):=⟨rfl,rfl,rfl,by decide +kernel,rfl,by decide +kernel,by decide +kernel⟩
theorem ok_q15 {P:Program} {w:World} {K:PySem.W.Frag} {mg:Str->Option Value} {base:Heap} {k:Nat} {a:Addr} {fd:FuncData} (Df:Def K mg "is_whole" s_q15 ps_q15 a fd)
    (m_isinstance:mg "isinstance"=none)
    (m_bool:mg "bool"=none)
    (m_int:mg "int"=none)
   :FnOk P w K mg base (CX1 P w) (k + 1) a fd ps_q15 (spF K mg ps_q15.length λ ds=>callR N_q15 (B_q15) ds) :=
  fn_R1 Df.fn sc_q15 λ cdv A outer s H W E hr=>(xs_one (x_ret (ev_and (ev_isi (g:=gInt) rfl m_isinstance rfl m_int boot_int (ev_var 0) (kit_int _) boot_isinstance) (ev_one (ev_not (ev_isi (g:=gBool) rfl m_isinstance rfl m_bool boot_bool (ev_var 0) (kit_bool _) boot_isinstance))))))
noncomputable abbrev s_q14:Stmt:=top 5
noncomputable abbrev ps_q14:List Str:=["thing","bound"]
theorem sc_q14:FnScope N_q14 ps_q14 (defScope s_q14):=⟨rfl,rfl,rfl,by decide +kernel,rfl,by decide +kernel,by decide +kernel⟩
theorem ok_q14 {P:Program} {w:World} {K:PySem.W.Frag} {mg:Str->Option Value} {base:Heap} {k:Nat} {a:Addr} {fd:FuncData} (Df:Def K mg "is_below" s_q14 ps_q14 a fd)
    {M_q15:List D->R D} {a_q15:Addr} {fd_q15:FuncData} (D_q15:Def K mg "is_whole" s_q15 ps_q15 a_q15 fd_q15) (F_q15:FnOk P w K mg base (CX1 P w) k a_q15 fd_q15 ps_q15 (spF K mg ps_q15.length M_q15))
   :FnOk P w K mg base (CX1 P w) (k + 1) a fd ps_q14 (spF K mg ps_q14.length λ ds=>callR N_q14 (B_q14 M_q15) ds) :=
  fn_R1 Df.fn sc_q14 λ cdv A outer s H W E hr=>(xs_one (x_ret (ev_and (ev_call F_q15 (pw1 ⟨rfl,rfl,rfl⟩) hr rfl D_q15.mg D_q15.fn.kp D_q15.bd (av_cons (ev_var 0) av_nil)) (ev_one (ev_chain opd_le opd_lt ev_int (ev_var 0) (ev_var 1))))))
noncomputable abbrev s_q8:Stmt:=top 14
noncomputable abbrev ps_q8:List Str:=["yard","world"]
theorem sc_q8:FnScope N_q8 ps_q8 (defScope s_q8):=⟨rfl,rfl,rfl,by decide +kernel,rfl,by decide +kernel,by decide +kernel⟩
theorem ok_q8 {P:Program} {w:World} {K:PySem.W.Frag} {mg:Str->Option Value} {base:Heap} {k:Nat} {a:Addr} {fd:FuncData} (Df:Def K mg "must_have" s_q8 ps_q8 a fd)
    {M_q14:List D->R D} {a_q14:Addr} {fd_q14:FuncData} (D_q14:Def K mg "is_below" s_q14 ps_q14 a_q14 fd_q14) (F_q14:FnOk P w K mg base (CX1 P w) k a_q14 fd_q14 ps_q14 (spF K mg ps_q14.length M_q14))
    (m_len:mg "len"=none)
    {C_NoWorld:Addr}
    {bm_NoWorld:List Value}
    (X_NoWorld:XCls K "NoWorld" C_NoWorld bm_NoWorld)
   :FnOk P w K mg base (CX1 P w) (k + 1) a fd ps_q8 (spF K mg ps_q8.length λ ds=>callR N_q8 (B_q8 M_q14) ds) :=
  fn_R1 Df.fn sc_q8 λ cdv A outer s H W E hr=>(xs_one (x_if (tv_not (tv_val (ev_call F_q14 (pw1 ⟨rfl,rfl,rfl⟩) hr rfl D_q14.mg D_q14.fn.kp D_q14.bd (av_cons (ev_var 1) (av_cons (ev_callB calld_len rfl m_len PySem.boot_len (av_cons (ev_var 0) av_nil)) av_nil))))) (xs_one (x_raise ⟨rfl,rfl,rfl⟩ X_NoWorld rfl rfl (av_cons ev_str av_nil))) xs_nil))
noncomputable abbrev s_q20:Stmt:=top 15
noncomputable abbrev ps_q20:List Str:=["yard","world","saying"]
theorem sc_q20:FnScope N_q20 ps_q20 (defScope s_q20):=⟨rfl,rfl,rfl,by decide +kernel,rfl,by decide +kernel,by decide +kernel⟩
theorem ok_q20 {P:Program} {w:World} {K:PySem.W.Frag} {mg:Str->Option Value} {base:Heap} {k:Nat} {a:Addr} {fd:FuncData} (Df:Def K mg "holds" s_q20 ps_q20 a fd)
    {M_q8:List D->R D} {a_q8:Addr} {fd_q8:FuncData} (D_q8:Def K mg "must_have" s_q8 ps_q8 a_q8 fd_q8) (F_q8:FnOk P w K mg base (CX1 P w) k a_q8 fd_q8 ps_q8 (spF K mg ps_q8.length M_q8))
    {M_q18:List D->R D} {a_q18:Addr} {fd_q18:FuncData} (D_q18:Def K mg "truths" s_q18 ps_q18 a_q18 fd_q18) (F_q18:FnOk P w K mg base (CX1 P w) k a_q18 fd_q18 ps_q18 (spF K mg ps_q18.length M_q18))
   :FnOk P w K mg base (CX1 P w) (k + 1) a fd ps_q20 (spF K mg ps_q20.length λ ds=>callR N_q20 (B_q20 M_q8 M_q18) ds) :=
  fn_R1 Df.fn sc_q20 λ cdv A outer s H W E hr=>(xs_cons (x_expr (ev_call F_q8 (pw1 ⟨rfl,rfl,rfl⟩) hr rfl D_q8.mg D_q8.fn.kp D_q8.bd (av_cons (ev_var 0) (av_cons (ev_var 1) av_nil)))) (xs_one (x_ret (ev_ix (ev_call F_q18 (pw1 ⟨rfl,rfl,rfl⟩) hr rfl D_q18.mg D_q18.fn.kp D_q18.bd (av_cons (ev_var 0) (av_cons (ev_var 2) av_nil))) (ev_var 1)))))
noncomputable abbrev s_q5:Stmt:=top 30
noncomputable abbrev ps_q5:List Str:=["_law_yard_here","_law_some","_law_world","_law_saying_here"]
theorem sc_q5:FnScope N_q5 ps_q5 (defScope s_q5):=⟨rfl,rfl,rfl,by decide +kernel,rfl,by decide +kernel,by decide +kernel⟩
theorem ok_q5 {P:Program} {w:World} {K:PySem.W.Frag} {mg:Str->Option Value} {base:Heap} {k:Nat} {a:Addr} {fd:FuncData} (Df:Def K mg "_law_behind" s_q5 ps_q5 a fd)
    {M_q5:List D->R D} (F_q5:FnOk P w K mg base (CX1 P w) k a fd ps_q5 (spF K mg ps_q5.length M_q5))
    (m_all:mg "all"=none)
    (m_any:mg "any"=none)
   :FnOk P w K mg base (CX1 P w) (k + 1) a fd ps_q5 (spF K mg ps_q5.length λ ds=>callR N_q5 (B_q5 M_q5) ds) :=
  fn_R1 Df.fn sc_q5 λ cdv A outer s H W E hr=>(xs_cons (x_if (tv_cmp (opd_eqD (room_u hr)) (ev_ix (ev_var 3) ev_int) ev_str) (xs_one (x_ret (ev_cmp (opd_memA (room_u hr)) (ev_ix (ev_var 3) ev_int) (ev_ix (ev_ix (ev_var 0) (ev_var 2)) ev_int)))) xs_nil) (xs_cons (x_if (tv_cmp (opd_eqD (room_u hr)) (ev_ix (ev_var 3) ev_int) ev_str) (xs_one (x_ret (ev_not (ev_call F_q5 (pw1 ⟨rfl,rfl,rfl⟩) hr rfl Df.mg Df.fn.kp Df.bd (av_cons (ev_var 0) (av_cons (ev_var 1) (av_cons (ev_var 2) (av_cons (ev_ix (ev_var 3) ev_int) av_nil)))))))) xs_nil) (xs_cons (x_if (tv_cmp (opd_memA (room_u hr)) (ev_ix (ev_var 3) ev_int) (ev_ow (ow_lst (av_cons ev_str (av_cons ev_str av_nil))))) (xs_cons (x_freeze (x_setComp 4 (blk_mk (defScope s_q5) N_q5 ["_law_some","_law_world","_law_yard_here"] rfl rfl rfl rfl (List.forall_mem_cons.mpr ⟨rfl,(List.forall_mem_cons.mpr ⟨rfl,(List.forall_mem_cons.mpr ⟨rfl,(List.forall_mem_nil _)⟩)⟩)⟩) (by decide +kernel)) rfl (it_tup (ev_slA (ev_var 3) (ov_some ev_int) ov_none)) (λ _ _ _ _=>ts_nil) (λ _ _ _ _=>(ev_call F_q5 pwB hr rfl Df.mg Df.fn.kp Df.bd (av_cons (ev_var 2) (av_cons (ev_var 3) (av_cons (ev_var 4) (av_cons (ev_var 0) av_nil)))))) sc_q5.nd)) (xs_one (x_ret (ev_or (ev_and (ev_ix (ev_var 4) ev_int) (ev_one (ev_ix (ev_var 4) ev_int))) (ev_one (ev_and (ev_cmp (opd_eqD (room_u hr)) (ev_ix (ev_var 3) ev_int) ev_str) (ev_one (ev_or (ev_ix (ev_var 4) ev_int) (ev_one (ev_ix (ev_var 4) ev_int)))))))))) xs_nil) (xs_cons (x_freeze (x_setComp 5 (blk_mk (defScope s_q5) N_q5 ["_law_saying_here","_law_some","_law_yard_here"] rfl rfl rfl rfl (List.forall_mem_cons.mpr ⟨rfl,(List.forall_mem_cons.mpr ⟨rfl,(List.forall_mem_cons.mpr ⟨rfl,(List.forall_mem_nil _)⟩)⟩)⟩) (by decide +kernel)) rfl (it_tup (ev_ix (ev_ix (ev_ix (ev_var 0) (ev_var 2)) ev_int) (ev_ix (ev_var 3) ev_int))) (λ _ _ _ _=>(ts_one (tv_cmp (opd_memA (room_u hr)) (ev_var 0) (ev_var 3)))) (λ _ _ _ _=>(ev_call F_q5 pwB hr rfl Df.mg Df.fn.kp Df.bd (av_cons (ev_var 2) (av_cons (ev_var 3) (av_cons (ev_var 0) (av_cons (ev_ix (ev_var 5) ev_int) av_nil)))))) sc_q5.nd)) (xs_cons (x_if (tv_cmp (opd_eqD (room_u hr)) (ev_ix (ev_var 3) ev_int) ev_str) (xs_one (x_ret (ev_callBS (calls_all rfl) rfl m_all boot_all (sq_var 5)))) xs_nil) (xs_one (x_ret (ev_callBS (calls_any rfl) rfl m_any boot_any (sq_var 5)))))))))
noncomputable def M_law:List D->R D:=λ ds=>callR N_law (B_law M_q11 M_q9 (M_q4 6) (M_q7 6) M_q1 M_q6 M_q2 M_q20 (M_q5 6)) ds
noncomputable abbrev s_law:Stmt:=top 31
noncomputable abbrev ps_law:List Str:=["_law_script"]
theorem sc_law:FnScope N_law ps_law (defScope s_law):=⟨rfl,rfl,rfl,by decide +kernel,rfl,by decide +kernel,by decide +kernel⟩
theorem ok_law {P:Program} {w:World} {K:PySem.W.Frag} {mg:Str->Option Value} {base:Heap} {k:Nat} {a:Addr} {fd:FuncData} (Df:Def K mg "law" s_law ps_law a fd)
    {M_q11:List D->R D} {a_q11:Addr} {fd_q11:FuncData} (D_q11:Def K mg "_law_yard" s_q11 ps_q11 a_q11 fd_q11) (F_q11:FnOk P w K mg base (CX1 P w) k a_q11 fd_q11 ps_q11 (spF K mg ps_q11.length M_q11))
    {M_q9:List D->R D} {a_q9:Addr} {fd_q9:FuncData} (D_q9:Def K mg "_law_cell" s_q9 ps_q9 a_q9 fd_q9) (F_q9:FnOk P w K mg base (CX1 P w) k a_q9 fd_q9 ps_q9 (spF K mg ps_q9.length M_q9))
    {M_q4:List D->R D} {a_q4:Addr} {fd_q4:FuncData} (D_q4:Def K mg "_law_saying" s_q4 ps_q4 a_q4 fd_q4) (F_q4:FnOk P w K mg base (CX1 P w) k a_q4 fd_q4 ps_q4 (spF K mg ps_q4.length M_q4))
    {M_q7:List D->R D} {a_q7:Addr} {fd_q7:FuncData} (D_q7:Def K mg "_law_holds" s_q7 ps_q7 a_q7 fd_q7) (F_q7:FnOk P w K mg base (CX1 P w) k a_q7 fd_q7 ps_q7 (spF K mg ps_q7.length M_q7))
    {M_q1:List D->R D} {a_q1:Addr} {fd_q1:FuncData} (D_q1:Def K mg "_law_refused" s_q1 ps_q1 a_q1 fd_q1) (F_q1:FnOk P w K mg base (CX1 P w) k a_q1 fd_q1 ps_q1 (spF K mg ps_q1.length M_q1))
    {M_q6:List D->R D} {a_q6:Addr} {fd_q6:FuncData} (D_q6:Def K mg "told_to_all" s_q6 ps_q6 a_q6 fd_q6) (F_q6:FnOk P w K mg base (CX1 P w) k a_q6 fd_q6 ps_q6 (spF K mg ps_q6.length M_q6))
    {M_q2:List D->R D} {a_q2:Addr} {fd_q2:FuncData} (D_q2:Def K mg "_law_is_yard" s_q2 ps_q2 a_q2 fd_q2) (F_q2:FnOk P w K mg base (CX1 P w) k a_q2 fd_q2 ps_q2 (spF K mg ps_q2.length M_q2))
    {M_q20:List D->R D} {a_q20:Addr} {fd_q20:FuncData} (D_q20:Def K mg "holds" s_q20 ps_q20 a_q20 fd_q20) (F_q20:FnOk P w K mg base (CX1 P w) k a_q20 fd_q20 ps_q20 (spF K mg ps_q20.length M_q20))
    {M_q5:List D->R D} {a_q5:Addr} {fd_q5:FuncData} (D_q5:Def K mg "_law_behind" s_q5 ps_q5 a_q5 fd_q5) (F_q5:FnOk P w K mg base (CX1 P w) k a_q5 fd_q5 ps_q5 (spF K mg ps_q5.length M_q5))
    (m_range:mg "range"=none)
    (m_len:mg "len"=none)
    (m_enumerate:mg "enumerate"=none)
   :FnOk P w K mg base (CX1 P w) (k + 1) a fd ps_law (spF K mg ps_law.length λ ds=>callR N_law (B_law M_q11 M_q9 M_q4 M_q7 M_q1 M_q6 M_q2 M_q20 M_q5) ds) :=
  fn_R1 Df.fn sc_law λ cdv A outer s H W E hr=>(xs_cons (x_set 1 (ev_call F_q11 (pw1 ⟨rfl,rfl,rfl⟩) hr rfl D_q11.mg D_q11.fn.kp D_q11.bd (av_cons (ev_var 0) (av_cons ev_int (av_cons (ev_op opd_mod (ev_call F_q9 (pw1 ⟨rfl,rfl,rfl⟩) hr rfl D_q9.mg D_q9.fn.kp D_q9.bd (av_cons (ev_var 0) (av_cons ev_int av_nil))) ev_int) av_nil)))) sc_law.nd) (xs_cons (x_set 2 (ev_call F_q4 (pw1 ⟨rfl,rfl,rfl⟩) hr rfl D_q4.mg D_q4.fn.kp D_q4.bd (av_cons (ev_call F_q9 (pw1 ⟨rfl,rfl,rfl⟩) hr rfl D_q9.mg D_q9.fn.kp D_q9.bd (av_cons (ev_var 0) (av_cons ev_int av_nil))) (av_cons ev_int av_nil))) sc_law.nd) (xs_cons (x_freeze (x_setComp 3 (blk_mk (defScope s_law) N_law ["_law_a","_law_yard_here"] rfl rfl rfl rfl (List.forall_mem_cons.mpr ⟨rfl,(List.forall_mem_cons.mpr ⟨rfl,(List.forall_mem_nil _)⟩)⟩) (by decide +kernel)) rfl (it_range1 rfl m_range (av_cons (ev_callB calld_len rfl m_len PySem.boot_len (av_cons (ev_var 1) av_nil)) av_nil)) (λ _ _ _ _=>(ts_one (tv_val (ev_call F_q7 pwB hr rfl D_q7.mg D_q7.fn.kp D_q7.bd (av_cons (ev_var 3) (av_cons (ev_var 0) (av_cons (ev_var 4) av_nil))))))) (λ _ _ _ _=>(ev_var 0)) sc_law.nd)) (xs_cons (x_if (tv_not (tv_val (ev_var 3))) (xs_one (x_ret (ev_call F_q1 (pw1 ⟨rfl,rfl,rfl⟩) hr rfl D_q1.mg D_q1.fn.kp D_q1.bd (av_cons (ev_var 1) (av_cons (ev_var 2) av_nil))))) xs_nil) (xs_cons (x_set 4 (ev_call F_q6 (pw1 ⟨rfl,rfl,rfl⟩) hr rfl D_q6.mg D_q6.fn.kp D_q6.bd (av_cons (ev_var 1) (av_cons (ev_var 2) av_nil))) sc_law.nd) (xs_cons (x_if (WvD.tv (wv_or (tv_not (tv_val (ev_call F_q2 (pw1 ⟨rfl,rfl,rfl⟩) hr rfl D_q2.mg D_q2.fn.kp D_q2.bd (av_cons (ev_var 4) av_nil)))) (wv_or1 (tv_cmp (opd_neD (room_u hr)) (ev_callB calld_len rfl m_len PySem.boot_len (av_cons (ev_var 4) av_nil)) (ev_callB calld_len rfl m_len PySem.boot_len (av_cons (ev_var 3) av_nil)))))) (xs_one (x_ret ev_bl)) xs_nil) (xs_cons (x_for rfl (it_enum rfl m_enumerate (ev_var 3)) (tg_two rfl (tg_name 5 sc_law.nd) (tg_name 6 sc_law.nd)) (xs_cons (x_if (tv_cmp (opd_neD (room_u hr)) (ev_ix (ev_ix (ev_var 4) (ev_var 5)) ev_int) (ev_ix (ev_ix (ev_var 1) (ev_var 6)) ev_int)) (xs_one (x_ret ev_bl)) xs_nil) (xs_one (x_for rfl (it_list (ev_ow (ow_slL (sq_var 0) (ov_some ev_int) (ov_some ev_int)))) (tg_name 7 sc_law.nd) (xs_cons (x_set 8 (ev_call F_q4 (pw1 ⟨rfl,rfl,rfl⟩) hr rfl D_q4.mg D_q4.fn.kp D_q4.bd (av_cons (ev_var 7) (av_cons ev_int av_nil))) sc_law.nd) (xs_one (x_if (tv_cmp (opd_neD (room_u hr)) (ev_call F_q20 (pw1 ⟨rfl,rfl,rfl⟩) hr rfl D_q20.mg D_q20.fn.kp D_q20.bd (av_cons (ev_var 4) (av_cons (ev_var 5) (av_cons (ev_var 8) av_nil)))) (ev_call F_q5 (pw1 ⟨rfl,rfl,rfl⟩) hr rfl D_q5.mg D_q5.fn.kp D_q5.bd (av_cons (ev_var 1) (av_cons (ev_var 3) (av_cons (ev_var 6) (av_cons (ev_var 8) av_nil)))))) (xs_one (x_ret ev_bl)) xs_nil))) (hp:=po1 ⟨rfl,rfl,rfl⟩)))) (hp:=po1 ⟨rfl,rfl,rfl⟩)) (xs_one (x_ret ev_bl)))))))))
theorem all_mk {l:PySem.W.OpenLaw} {w:World} {K:PySem.W.Frag} {h:Heap} {mg:Str->Option Value} {fa f_q9 f_q13 f_q11 f_q4 f_q10 f_q3 f_q22 f_q0 f_q21 f_q16 f_q12 f_q17 f_q19 f_q18 f_q6 f_q1 f_q7 f_q2 f_q15 f_q14 f_q8 f_q20 f_q5 f_law  C_YardError n_YardError C_NoWorld n_NoWorld:Addr} (X:K.In h) (G:h.Ns mainGlobals mg) (hfa:mg "law"=some (.ref fa))
    {od_q9 an_q9:Option Addr} {sl_q9:Array (Option Value)} {oc_q9 kV_q9 dc_q9 pm_q9 cd_q9 ct_q9:Value}
    {od_q13 an_q13:Option Addr} {sl_q13:Array (Option Value)} {oc_q13 kV_q13 dc_q13 pm_q13 cd_q13 ct_q13:Value}
    {od_q11 an_q11:Option Addr} {sl_q11:Array (Option Value)} {oc_q11 kV_q11 dc_q11 pm_q11 cd_q11 ct_q11:Value}
    {od_q4 an_q4:Option Addr} {sl_q4:Array (Option Value)} {oc_q4 kV_q4 dc_q4 pm_q4 cd_q4 ct_q4:Value}
    {od_q10 an_q10:Option Addr} {sl_q10:Array (Option Value)} {oc_q10 kV_q10 dc_q10 pm_q10 cd_q10 ct_q10:Value}
    {od_q3 an_q3:Option Addr} {sl_q3:Array (Option Value)} {oc_q3 kV_q3 dc_q3 pm_q3 cd_q3 ct_q3:Value}
    {od_q22 an_q22:Option Addr} {sl_q22:Array (Option Value)} {oc_q22 kV_q22 dc_q22 pm_q22 cd_q22 ct_q22:Value}
    {od_q0 an_q0:Option Addr} {sl_q0:Array (Option Value)} {oc_q0 kV_q0 dc_q0 pm_q0 cd_q0 ct_q0:Value}
    {od_q21 an_q21:Option Addr} {sl_q21:Array (Option Value)} {oc_q21 kV_q21 dc_q21 pm_q21 cd_q21 ct_q21:Value}
    {od_q16 an_q16:Option Addr} {sl_q16:Array (Option Value)} {oc_q16 kV_q16 dc_q16 pm_q16 cd_q16 ct_q16:Value}
    {od_q12 an_q12:Option Addr} {sl_q12:Array (Option Value)} {oc_q12 kV_q12 dc_q12 pm_q12 cd_q12 ct_q12:Value}
    {od_q17 an_q17:Option Addr} {sl_q17:Array (Option Value)} {oc_q17 kV_q17 dc_q17 pm_q17 cd_q17 ct_q17:Value}
    {od_q19 an_q19:Option Addr} {sl_q19:Array (Option Value)} {oc_q19 kV_q19 dc_q19 pm_q19 cd_q19 ct_q19:Value}
    {od_q18 an_q18:Option Addr} {sl_q18:Array (Option Value)} {oc_q18 kV_q18 dc_q18 pm_q18 cd_q18 ct_q18:Value}
    {od_q6 an_q6:Option Addr} {sl_q6:Array (Option Value)} {oc_q6 kV_q6 dc_q6 pm_q6 cd_q6 ct_q6:Value}
    {od_q1 an_q1:Option Addr} {sl_q1:Array (Option Value)} {oc_q1 kV_q1 dc_q1 pm_q1 cd_q1 ct_q1:Value}
    {od_q7 an_q7:Option Addr} {sl_q7:Array (Option Value)} {oc_q7 kV_q7 dc_q7 pm_q7 cd_q7 ct_q7:Value}
    {od_q2 an_q2:Option Addr} {sl_q2:Array (Option Value)} {oc_q2 kV_q2 dc_q2 pm_q2 cd_q2 ct_q2:Value}
    {od_q15 an_q15:Option Addr} {sl_q15:Array (Option Value)} {oc_q15 kV_q15 dc_q15 pm_q15 cd_q15 ct_q15:Value}
    {od_q14 an_q14:Option Addr} {sl_q14:Array (Option Value)} {oc_q14 kV_q14 dc_q14 pm_q14 cd_q14 ct_q14:Value}
    {od_q8 an_q8:Option Addr} {sl_q8:Array (Option Value)} {oc_q8 kV_q8 dc_q8 pm_q8 cd_q8 ct_q8:Value}
    {od_q20 an_q20:Option Addr} {sl_q20:Array (Option Value)} {oc_q20 kV_q20 dc_q20 pm_q20 cd_q20 ct_q20:Value}
    {od_q5 an_q5:Option Addr} {sl_q5:Array (Option Value)} {oc_q5 kV_q5 dc_q5 pm_q5 cd_q5 ct_q5:Value}
    {od_law an_law:Option Addr} {sl_law:Array (Option Value)} {oc_law kV_law dc_law pm_law cd_law ct_law:Value}
    {nm_YardError q_YardError:Str} {bs_YardError sub_YardError:List Value} {hd_YardError ab_YardError:Bool} {sn_YardError:List Str} {col_YardError:Option Bool} {dd_YardError:Option Addr} {k0_YardError k1_YardError k2_YardError k3_YardError k5_YardError:Option Value}
    {nm_NoWorld q_NoWorld:Str} {bs_NoWorld sub_NoWorld:List Value} {hd_NoWorld ab_NoWorld:Bool} {sn_NoWorld:List Str} {col_NoWorld:Option Bool} {dd_NoWorld:Option Addr} {k0_NoWorld k1_NoWorld k2_NoWorld k3_NoWorld k5_NoWorld:Option Value}
    (a_q9:PySem.W.nsIn K mainGlobals "_law_cell"=some (some (.ref f_q9))) (l_q9:K.lookup f_q9=some ⟨oc_q9,od_q9,.func (PySem.W.fnOf "_law_cell" "_law_cell" (defArgs s_q9) (defBody s_q9) (defScope s_q9) .none kV_q9 dc_q9 pm_q9 an_q9 cd_q9 ct_q9),sl_q9⟩) (c_q9:PySem.W.codeIn K cd_q9 "_law_cell"=true) (k_q9:PySem.W.keepIn K (.ref f_q9)=true)
    (a_q13:PySem.W.nsIn K mainGlobals "_law_mix"=some (some (.ref f_q13))) (l_q13:K.lookup f_q13=some ⟨oc_q13,od_q13,.func (PySem.W.fnOf "_law_mix" "_law_mix" (defArgs s_q13) (defBody s_q13) (defScope s_q13) .none kV_q13 dc_q13 pm_q13 an_q13 cd_q13 ct_q13),sl_q13⟩) (c_q13:PySem.W.codeIn K cd_q13 "_law_mix"=true) (k_q13:PySem.W.keepIn K (.ref f_q13)=true)
    (a_q11:PySem.W.nsIn K mainGlobals "_law_yard"=some (some (.ref f_q11))) (l_q11:K.lookup f_q11=some ⟨oc_q11,od_q11,.func (PySem.W.fnOf "_law_yard" "_law_yard" (defArgs s_q11) (defBody s_q11) (defScope s_q11) .none kV_q11 dc_q11 pm_q11 an_q11 cd_q11 ct_q11),sl_q11⟩) (c_q11:PySem.W.codeIn K cd_q11 "_law_yard"=true) (k_q11:PySem.W.keepIn K (.ref f_q11)=true)
    (a_q4:PySem.W.nsIn K mainGlobals "_law_saying"=some (some (.ref f_q4))) (l_q4:K.lookup f_q4=some ⟨oc_q4,od_q4,.func (PySem.W.fnOf "_law_saying" "_law_saying" (defArgs s_q4) (defBody s_q4) (defScope s_q4) .none kV_q4 dc_q4 pm_q4 an_q4 cd_q4 ct_q4),sl_q4⟩) (c_q4:PySem.W.codeIn K cd_q4 "_law_saying"=true) (k_q4:PySem.W.keepIn K (.ref f_q4)=true)
    (a_q10:PySem.W.nsIn K mainGlobals "moved_row"=some (some (.ref f_q10))) (l_q10:K.lookup f_q10=some ⟨oc_q10,od_q10,.func (PySem.W.fnOf "moved_row" "moved_row" (defArgs s_q10) (defBody s_q10) (defScope s_q10) .none kV_q10 dc_q10 pm_q10 an_q10 cd_q10 ct_q10),sl_q10⟩) (c_q10:PySem.W.codeIn K cd_q10 "moved_row"=true) (k_q10:PySem.W.keepIn K (.ref f_q10)=true)
    (a_q3:PySem.W.nsIn K mainGlobals "moved_world"=some (some (.ref f_q3))) (l_q3:K.lookup f_q3=some ⟨oc_q3,od_q3,.func (PySem.W.fnOf "moved_world" "moved_world" (defArgs s_q3) (defBody s_q3) (defScope s_q3) .none kV_q3 dc_q3 pm_q3 an_q3 cd_q3 ct_q3),sl_q3⟩) (c_q3:PySem.W.codeIn K cd_q3 "moved_world"=true) (k_q3:PySem.W.keepIn K (.ref f_q3)=true)
    (a_q22:PySem.W.nsIn K mainGlobals "moved"=some (some (.ref f_q22))) (l_q22:K.lookup f_q22=some ⟨oc_q22,od_q22,.func (PySem.W.fnOf "moved" "moved" (defArgs s_q22) (defBody s_q22) (defScope s_q22) .none kV_q22 dc_q22 pm_q22 an_q22 cd_q22 ct_q22),sl_q22⟩) (c_q22:PySem.W.codeIn K cd_q22 "moved"=true) (k_q22:PySem.W.keepIn K (.ref f_q22)=true)
    (a_q0:PySem.W.nsIn K mainGlobals "numbered_anew"=some (some (.ref f_q0))) (l_q0:K.lookup f_q0=some ⟨oc_q0,od_q0,.func (PySem.W.fnOf "numbered_anew" "numbered_anew" (defArgs s_q0) (defBody s_q0) (defScope s_q0) .none kV_q0 dc_q0 pm_q0 an_q0 cd_q0 ct_q0),sl_q0⟩) (c_q0:PySem.W.codeIn K cd_q0 "numbered_anew"=true) (k_q0:PySem.W.keepIn K (.ref f_q0)=true)
    (a_q21:PySem.W.nsIn K mainGlobals "parts"=some (some (.ref f_q21))) (l_q21:K.lookup f_q21=some ⟨oc_q21,od_q21,.func (PySem.W.fnOf "parts" "parts" (defArgs s_q21) (defBody s_q21) (defScope s_q21) .none kV_q21 dc_q21 pm_q21 an_q21 cd_q21 ct_q21),sl_q21⟩) (c_q21:PySem.W.codeIn K cd_q21 "parts"=true) (k_q21:PySem.W.keepIn K (.ref f_q21)=true)
    (a_q16:PySem.W.nsIn K mainGlobals "walked"=some (some (.ref f_q16))) (l_q16:K.lookup f_q16=some ⟨oc_q16,od_q16,.func (PySem.W.fnOf "walked" "walked" (defArgs s_q16) (defBody s_q16) (defScope s_q16) .none kV_q16 dc_q16 pm_q16 an_q16 cd_q16 ct_q16),sl_q16⟩) (c_q16:PySem.W.codeIn K cd_q16 "walked"=true) (k_q16:PySem.W.keepIn K (.ref f_q16)=true)
    (a_q12:PySem.W.nsIn K mainGlobals "gathered"=some (some (.ref f_q12))) (l_q12:K.lookup f_q12=some ⟨oc_q12,od_q12,.func (PySem.W.fnOf "gathered" "gathered" (defArgs s_q12) (defBody s_q12) (defScope s_q12) .none kV_q12 dc_q12 pm_q12 an_q12 cd_q12 ct_q12),sl_q12⟩) (c_q12:PySem.W.codeIn K cd_q12 "gathered"=true) (k_q12:PySem.W.keepIn K (.ref f_q12)=true)
    (a_q17:PySem.W.nsIn K mainGlobals "led_to"=some (some (.ref f_q17))) (l_q17:K.lookup f_q17=some ⟨oc_q17,od_q17,.func (PySem.W.fnOf "led_to" "led_to" (defArgs s_q17) (defBody s_q17) (defScope s_q17) .none kV_q17 dc_q17 pm_q17 an_q17 cd_q17 ct_q17),sl_q17⟩) (c_q17:PySem.W.codeIn K cd_q17 "led_to"=true) (k_q17:PySem.W.keepIn K (.ref f_q17)=true)
    (a_q19:PySem.W.nsIn K mainGlobals "row_of"=some (some (.ref f_q19))) (l_q19:K.lookup f_q19=some ⟨oc_q19,od_q19,.func (PySem.W.fnOf "row_of" "row_of" (defArgs s_q19) (defBody s_q19) (defScope s_q19) .none kV_q19 dc_q19 pm_q19 an_q19 cd_q19 ct_q19),sl_q19⟩) (c_q19:PySem.W.codeIn K cd_q19 "row_of"=true) (k_q19:PySem.W.keepIn K (.ref f_q19)=true)
    (a_q18:PySem.W.nsIn K mainGlobals "truths"=some (some (.ref f_q18))) (l_q18:K.lookup f_q18=some ⟨oc_q18,od_q18,.func (PySem.W.fnOf "truths" "truths" (defArgs s_q18) (defBody s_q18) (defScope s_q18) .none kV_q18 dc_q18 pm_q18 an_q18 cd_q18 ct_q18),sl_q18⟩) (c_q18:PySem.W.codeIn K cd_q18 "truths"=true) (k_q18:PySem.W.keepIn K (.ref f_q18)=true)
    (a_q6:PySem.W.nsIn K mainGlobals "told_to_all"=some (some (.ref f_q6))) (l_q6:K.lookup f_q6=some ⟨oc_q6,od_q6,.func (PySem.W.fnOf "told_to_all" "told_to_all" (defArgs s_q6) (defBody s_q6) (defScope s_q6) .none kV_q6 dc_q6 pm_q6 an_q6 cd_q6 ct_q6),sl_q6⟩) (c_q6:PySem.W.codeIn K cd_q6 "told_to_all"=true) (k_q6:PySem.W.keepIn K (.ref f_q6)=true)
    (a_q1:PySem.W.nsIn K mainGlobals "_law_refused"=some (some (.ref f_q1))) (l_q1:K.lookup f_q1=some ⟨oc_q1,od_q1,.func (PySem.W.fnOf "_law_refused" "_law_refused" (defArgs s_q1) (defBody s_q1) (defScope s_q1) .none kV_q1 dc_q1 pm_q1 an_q1 cd_q1 ct_q1),sl_q1⟩) (c_q1:PySem.W.codeIn K cd_q1 "_law_refused"=true) (k_q1:PySem.W.keepIn K (.ref f_q1)=true)
    (a_q7:PySem.W.nsIn K mainGlobals "_law_holds"=some (some (.ref f_q7))) (l_q7:K.lookup f_q7=some ⟨oc_q7,od_q7,.func (PySem.W.fnOf "_law_holds" "_law_holds" (defArgs s_q7) (defBody s_q7) (defScope s_q7) .none kV_q7 dc_q7 pm_q7 an_q7 cd_q7 ct_q7),sl_q7⟩) (c_q7:PySem.W.codeIn K cd_q7 "_law_holds"=true) (k_q7:PySem.W.keepIn K (.ref f_q7)=true)
    (a_q2:PySem.W.nsIn K mainGlobals "_law_is_yard"=some (some (.ref f_q2))) (l_q2:K.lookup f_q2=some ⟨oc_q2,od_q2,.func (PySem.W.fnOf "_law_is_yard" "_law_is_yard" (defArgs s_q2) (defBody s_q2) (defScope s_q2) .none kV_q2 dc_q2 pm_q2 an_q2 cd_q2 ct_q2),sl_q2⟩) (c_q2:PySem.W.codeIn K cd_q2 "_law_is_yard"=true) (k_q2:PySem.W.keepIn K (.ref f_q2)=true)
    (a_q15:PySem.W.nsIn K mainGlobals "is_whole"=some (some (.ref f_q15))) (l_q15:K.lookup f_q15=some ⟨oc_q15,od_q15,.func (PySem.W.fnOf "is_whole" "is_whole" (defArgs s_q15) (defBody s_q15) (defScope s_q15) .none kV_q15 dc_q15 pm_q15 an_q15 cd_q15 ct_q15),sl_q15⟩) (c_q15:PySem.W.codeIn K cd_q15 "is_whole"=true) (k_q15:PySem.W.keepIn K (.ref f_q15)=true)
    (a_q14:PySem.W.nsIn K mainGlobals "is_below"=some (some (.ref f_q14))) (l_q14:K.lookup f_q14=some ⟨oc_q14,od_q14,.func (PySem.W.fnOf "is_below" "is_below" (defArgs s_q14) (defBody s_q14) (defScope s_q14) .none kV_q14 dc_q14 pm_q14 an_q14 cd_q14 ct_q14),sl_q14⟩) (c_q14:PySem.W.codeIn K cd_q14 "is_below"=true) (k_q14:PySem.W.keepIn K (.ref f_q14)=true)
    (a_q8:PySem.W.nsIn K mainGlobals "must_have"=some (some (.ref f_q8))) (l_q8:K.lookup f_q8=some ⟨oc_q8,od_q8,.func (PySem.W.fnOf "must_have" "must_have" (defArgs s_q8) (defBody s_q8) (defScope s_q8) .none kV_q8 dc_q8 pm_q8 an_q8 cd_q8 ct_q8),sl_q8⟩) (c_q8:PySem.W.codeIn K cd_q8 "must_have"=true) (k_q8:PySem.W.keepIn K (.ref f_q8)=true)
    (a_q20:PySem.W.nsIn K mainGlobals "holds"=some (some (.ref f_q20))) (l_q20:K.lookup f_q20=some ⟨oc_q20,od_q20,.func (PySem.W.fnOf "holds" "holds" (defArgs s_q20) (defBody s_q20) (defScope s_q20) .none kV_q20 dc_q20 pm_q20 an_q20 cd_q20 ct_q20),sl_q20⟩) (c_q20:PySem.W.codeIn K cd_q20 "holds"=true) (k_q20:PySem.W.keepIn K (.ref f_q20)=true)
    (a_q5:PySem.W.nsIn K mainGlobals "_law_behind"=some (some (.ref f_q5))) (l_q5:K.lookup f_q5=some ⟨oc_q5,od_q5,.func (PySem.W.fnOf "_law_behind" "_law_behind" (defArgs s_q5) (defBody s_q5) (defScope s_q5) .none kV_q5 dc_q5 pm_q5 an_q5 cd_q5 ct_q5),sl_q5⟩) (c_q5:PySem.W.codeIn K cd_q5 "_law_behind"=true) (k_q5:PySem.W.keepIn K (.ref f_q5)=true)
    (a_law:PySem.W.nsIn K mainGlobals "law"=some (some (.ref f_law))) (l_law:K.lookup f_law=some ⟨oc_law,od_law,.func (PySem.W.fnOf "law" "law" (defArgs s_law) (defBody s_law) (defScope s_law) .none kV_law dc_law pm_law an_law cd_law ct_law),sl_law⟩) (c_law:PySem.W.codeIn K cd_law "law"=true) (k_law:PySem.W.keepIn K (.ref f_law)=true)
    (a_YardError:PySem.W.nsIn K mainGlobals "YardError"=some (some (.ref C_YardError))) (l_YardError:K.lookup C_YardError=some (excClassObj nm_YardError q_YardError C_YardError n_YardError bs_YardError bmV hd_YardError sn_YardError sub_YardError ab_YardError col_YardError dd_YardError k0_YardError k1_YardError k2_YardError k3_YardError k5_YardError "ValueError.__new__")) (q_YardError':quietIn K n_YardError=true)
    (a_NoWorld:PySem.W.nsIn K mainGlobals "NoWorld"=some (some (.ref C_NoWorld))) (l_NoWorld:K.lookup C_NoWorld=some (excClassObj nm_NoWorld q_NoWorld C_NoWorld n_NoWorld bs_NoWorld (.ref C_YardError::bmV) hd_NoWorld sn_NoWorld sub_NoWorld ab_NoWorld col_NoWorld dd_NoWorld k0_NoWorld k1_NoWorld k2_NoWorld k3_NoWorld k5_NoWorld "ValueError.__new__")) (q_NoWorld':quietIn K n_NoWorld=true)
    (i_YardError_ValueError:PySem.W.kitOne K (.ref C_YardError) (.type "ValueError")=some true)
    (i_NoWorld_ValueError:PySem.W.kitOne K (.ref C_NoWorld) (.type "ValueError")=some true)
    (i_NoWorld_NoWorld:PySem.W.kitOne K (.ref C_NoWorld) (.ref C_NoWorld)=some true)
    (z_len:PySem.W.nsIn K mainGlobals "len"=some none)
    (z_range:PySem.W.nsIn K mainGlobals "range"=some none)
    (z_enumerate:PySem.W.nsIn K mainGlobals "enumerate"=some none)
    (z_tuple:PySem.W.nsIn K mainGlobals "tuple"=some none)
    (z_sorted:PySem.W.nsIn K mainGlobals "sorted"=some none)
    (z_set:PySem.W.nsIn K mainGlobals "set"=some none)
    (z_dict:PySem.W.nsIn K mainGlobals "dict"=some none)
    (z_reversed:PySem.W.nsIn K mainGlobals "reversed"=some none)
    (z_zip:PySem.W.nsIn K mainGlobals "zip"=some none)
    (z_all:PySem.W.nsIn K mainGlobals "all"=some none)
    (z_any:PySem.W.nsIn K mainGlobals "any"=some none)
    (z_isinstance:PySem.W.nsIn K mainGlobals "isinstance"=some none)
    (z_ValueError:PySem.W.nsIn K mainGlobals "ValueError"=some none)
    (z_list:PySem.W.nsIn K mainGlobals "list"=some none)
    (z_bool:PySem.W.nsIn K mainGlobals "bool"=some none)
    (z_int:PySem.W.nsIn K mainGlobals "int"=some none)
    {ca_q18 cP_q18:Addr} (tb_q18:PySem.W.tabIn K "truths"=some (ca_q18,cP_q18))
   :∃ fd:FuncData,(∀ (s:Shared) (v:Value),BindsTo s fd ⟨[v],[]⟩ [("_law_script",v)])/\∀ base:Heap,Bas K mg base->FnOk l.prog w K mg base (CX1 l.prog w) 8 fa fd ["_law_script"] (spL K M_law):=by
  have e:=hfa.symm.trans (PySem.W.mg_of X G a_law)
  cases e
  have m_len:=PySem.W.mg_none_of X G z_len
  have m_range:=PySem.W.mg_none_of X G z_range
  have m_enumerate:=PySem.W.mg_none_of X G z_enumerate
  have m_tuple:=PySem.W.mg_none_of X G z_tuple
  have m_sorted:=PySem.W.mg_none_of X G z_sorted
  have m_set:=PySem.W.mg_none_of X G z_set
  have m_dict:=PySem.W.mg_none_of X G z_dict
  have m_reversed:=PySem.W.mg_none_of X G z_reversed
  have m_zip:=PySem.W.mg_none_of X G z_zip
  have m_all:=PySem.W.mg_none_of X G z_all
  have m_any:=PySem.W.mg_none_of X G z_any
  have m_isinstance:=PySem.W.mg_none_of X G z_isinstance
  have m_ValueError:=PySem.W.mg_none_of X G z_ValueError
  have m_list:=PySem.W.mg_none_of X G z_list
  have m_bool:=PySem.W.mg_none_of X G z_bool
  have m_int:=PySem.W.mg_none_of X G z_int
  have X_YardError:=xcls_base a_YardError l_YardError q_YardError'
  have g_YardError:=PySem.W.mg_of X G a_YardError
  have X_NoWorld:=xcls_sub a_NoWorld l_NoWorld q_NoWorld' X_YardError
  have g_NoWorld:=PySem.W.mg_of X G a_NoWorld
  have T_YardError:Falls K (.ref C_YardError) t_YardError:=by
    intro c b e
    unfold t_YardError at e
    split at e
    · rename_i hc
      cases e
      simp only [List.mem_cons,List.not_mem_nil,or_false] at hc
      rcases hc with rfl | rfl
      · exact ⟨_,_,X_YardError,by simp [List.contains_cons]⟩
      · exact ⟨_,_,X_NoWorld,by simp [List.contains_cons]⟩
    · cases e
  have Y_ValueError:FallsY K (.ty "ValueError") y_ValueError:=by
    intro c e
    have hc:=of_decide_eq_true e
    simp only [List.mem_cons,List.not_mem_nil,or_false] at hc
    rcases hc with rfl | rfl
    · exact ⟨_,a_YardError,λ u r=>by cases r; exact i_YardError_ValueError⟩
    · exact ⟨_,a_NoWorld,λ u r=>by cases r; exact i_NoWorld_ValueError⟩
  have Y_NoWorld:FallsY K (.ref C_NoWorld) y_NoWorld:=by
    intro c e
    have hc:=of_decide_eq_true e
    simp only [List.mem_cons,List.not_mem_nil,or_false] at hc
    rcases hc with rfl
    · exact ⟨_,a_NoWorld,λ u r=>by cases r; exact i_NoWorld_NoWorld⟩
  obtain ⟨fd_q9,D_q9⟩:=def_mk (st:=s_q9) (ps:=ps_q9) X G a_q9 l_q9 c_q9 k_q9 λ _ _ _ _ _ _ us hl=>match us,hl with | [_,_],_=>rfl
  obtain ⟨fd_q13,D_q13⟩:=def_mk (st:=s_q13) (ps:=ps_q13) X G a_q13 l_q13 c_q13 k_q13 λ _ _ _ _ _ _ us hl=>match us,hl with | [_,_,_],_=>rfl
  obtain ⟨fd_q11,D_q11⟩:=def_mk (st:=s_q11) (ps:=ps_q11) X G a_q11 l_q11 c_q11 k_q11 λ _ _ _ _ _ _ us hl=>match us,hl with | [_,_,_],_=>rfl
  obtain ⟨fd_q4,D_q4⟩:=def_mk (st:=s_q4) (ps:=ps_q4) X G a_q4 l_q4 c_q4 k_q4 λ _ _ _ _ _ _ us hl=>match us,hl with | [_,_],_=>rfl
  obtain ⟨fd_q10,D_q10⟩:=def_mk (st:=s_q10) (ps:=ps_q10) X G a_q10 l_q10 c_q10 k_q10 λ _ _ _ _ _ _ us hl=>match us,hl with | [_,_],_=>rfl
  obtain ⟨fd_q3,D_q3⟩:=def_mk (st:=s_q3) (ps:=ps_q3) X G a_q3 l_q3 c_q3 k_q3 λ _ _ _ _ _ _ us hl=>match us,hl with | [_,_],_=>rfl
  obtain ⟨fd_q22,D_q22⟩:=def_mk (st:=s_q22) (ps:=ps_q22) X G a_q22 l_q22 c_q22 k_q22 λ _ _ _ _ _ _ us hl=>match us,hl with | [_,_,_],_=>rfl
  obtain ⟨fd_q0,D_q0⟩:=def_mk (st:=s_q0) (ps:=ps_q0) X G a_q0 l_q0 c_q0 k_q0 λ _ _ _ _ _ _ us hl=>match us,hl with | [_,_],_=>rfl
  obtain ⟨fd_q21,D_q21⟩:=def_mk (st:=s_q21) (ps:=ps_q21) X G a_q21 l_q21 c_q21 k_q21 λ _ _ _ _ _ _ us hl=>match us,hl with | [_],_=>rfl
  obtain ⟨fd_q16,D_q16⟩:=def_mk (st:=s_q16) (ps:=ps_q16) X G a_q16 l_q16 c_q16 k_q16 λ _ _ _ _ _ _ us hl=>match us,hl with | [_],_=>rfl
  obtain ⟨fd_q12,D_q12⟩:=def_mk (st:=s_q12) (ps:=ps_q12) X G a_q12 l_q12 c_q12 k_q12 λ _ _ _ _ _ _ us hl=>match us,hl with | [_,_],_=>rfl
  obtain ⟨fd_q17,D_q17⟩:=def_mk (st:=s_q17) (ps:=ps_q17) X G a_q17 l_q17 c_q17 k_q17 λ _ _ _ _ _ _ us hl=>match us,hl with | [_,_,_],_=>rfl
  obtain ⟨fd_q19,D_q19⟩:=def_mk (st:=s_q19) (ps:=ps_q19) X G a_q19 l_q19 c_q19 k_q19 λ _ _ _ _ _ _ us hl=>match us,hl with | [_,_,_],_=>rfl
  obtain ⟨fd_q18,D_q18⟩:=def_mk (st:=s_q18) (ps:=ps_q18) X G a_q18 l_q18 c_q18 k_q18 λ _ _ _ _ _ _ us hl=>match us,hl with | [_,_],_=>rfl
  obtain ⟨fd_q6,D_q6⟩:=def_mk (st:=s_q6) (ps:=ps_q6) X G a_q6 l_q6 c_q6 k_q6 λ _ _ _ _ _ _ us hl=>match us,hl with | [_,_],_=>rfl
  obtain ⟨fd_q1,D_q1⟩:=def_mk (st:=s_q1) (ps:=ps_q1) X G a_q1 l_q1 c_q1 k_q1 λ _ _ _ _ _ _ us hl=>match us,hl with | [_,_],_=>rfl
  obtain ⟨fd_q7,D_q7⟩:=def_mk (st:=s_q7) (ps:=ps_q7) X G a_q7 l_q7 c_q7 k_q7 λ _ _ _ _ _ _ us hl=>match us,hl with | [_,_,_],_=>rfl
  obtain ⟨fd_q2,D_q2⟩:=def_mk (st:=s_q2) (ps:=ps_q2) X G a_q2 l_q2 c_q2 k_q2 λ _ _ _ _ _ _ us hl=>match us,hl with | [_],_=>rfl
  obtain ⟨fd_q15,D_q15⟩:=def_mk (st:=s_q15) (ps:=ps_q15) X G a_q15 l_q15 c_q15 k_q15 λ _ _ _ _ _ _ us hl=>match us,hl with | [_],_=>rfl
  obtain ⟨fd_q14,D_q14⟩:=def_mk (st:=s_q14) (ps:=ps_q14) X G a_q14 l_q14 c_q14 k_q14 λ _ _ _ _ _ _ us hl=>match us,hl with | [_,_],_=>rfl
  obtain ⟨fd_q8,D_q8⟩:=def_mk (st:=s_q8) (ps:=ps_q8) X G a_q8 l_q8 c_q8 k_q8 λ _ _ _ _ _ _ us hl=>match us,hl with | [_,_],_=>rfl
  obtain ⟨fd_q20,D_q20⟩:=def_mk (st:=s_q20) (ps:=ps_q20) X G a_q20 l_q20 c_q20 k_q20 λ _ _ _ _ _ _ us hl=>match us,hl with | [_,_,_],_=>rfl
  obtain ⟨fd_q5,D_q5⟩:=def_mk (st:=s_q5) (ps:=ps_q5) X G a_q5 l_q5 c_q5 k_q5 λ _ _ _ _ _ _ us hl=>match us,hl with | [_,_,_,_],_=>rfl
  have D_law:Def K mg "law" s_law ps_law fa (PySem.W.fnOf "law" "law" (defArgs s_law) (defBody s_law) (defScope s_law) .none kV_law dc_law pm_law an_law cd_law ct_law):=⟨fun_mk l_law c_law k_law,(fun_mk (st:=s_law) l_law c_law k_law).binds λ _ _ _ _ _ _ us hl=>match us,hl with | [_],_=>rfl,PySem.W.mg_of X G a_law⟩
  refine ⟨PySem.W.fnOf "law" "law" (defArgs s_law) (defBody s_law) (defScope s_law) .none kV_law dc_law pm_law an_law cd_law ct_law,λ s v=>.of_eq rfl,?_⟩
  have F_q9:=λ (base:Heap) (bas:Bas K mg base)=>ok_q9 (P:=l.prog) (w:=w) (base:=base) (k:=0) D_q9 m_len
  have F_q13:=λ (base:Heap) (bas:Bas K mg base)=>ok_q13 (P:=l.prog) (w:=w) (base:=base) (k:=0) D_q13 
  have F_q11:=λ (base:Heap) (bas:Bas K mg base)=>ok_q11 (P:=l.prog) (w:=w) (base:=base) (k:=1) D_q11 D_q9 ((F_q9 base bas).mono (by omega)) D_q13 ((F_q13 base bas).mono (by omega)) m_range m_enumerate m_tuple
  have R_q4:∀ base:Heap,Bas K mg base->∀ n,FnOk l.prog w K mg base (CX1 l.prog w) (1 + n) f_q4 fd_q4 ps_q4 (spF K mg ps_q4.length (M_q4 n)):=λ base bas n=>by
    induction n with
    | zero=>exact fn_none
    | succ n IH=>exact ok_q4 (k:=1 + n) D_q4 D_q13 ((F_q13 base bas).mono (by omega)) IH 
  have F_q4:=λ (base:Heap) (bas:Bas K mg base)=>R_q4 base bas 6
  have F_q10:=λ (base:Heap) (bas:Bas K mg base)=>FnOk.imp (ok_q10 (P:=l.prog) (w:=w) (base:=base) (k:=0) D_q10 m_tuple m_sorted m_set) λ vs H Q E h=>spK_parW (F:=λ ww ds=>callK ww [false,true] N_q10 (B_q10 ww) ds) h
  have F_q3:=λ (base:Heap) (bas:Bas K mg base)=>FnOk.imp (ok_q3 (P:=l.prog) (w:=w) (base:=base) (k:=1) D_q3 D_q10 ((F_q10 base bas).mono (by omega)) m_tuple) λ vs H Q E h=>spK_parW (F:=λ ww ds=>callK ww [false,true] N_q3 (B_q3 ww M_q10) ds) h
  have F_q22:=λ (base:Heap) (bas:Bas K mg base)=>FnOk.imp (ok_q22 (P:=l.prog) (w:=w) (base:=base) (k:=2) D_q22 D_q3 ((F_q3 base bas).mono (by omega)) m_tuple) λ vs H Q E h=>spK_parW (F:=λ ww ds=>callK ww [false,false,true] N_q22 (B_q22 ww M_q3) ds) h
  have F_q0:=λ (base:Heap) (bas:Bas K mg base)=>FnOk.imp (ok_q0 (P:=l.prog) (w:=w) (base:=base) (k:=3) D_q0 D_q22 ((F_q22 base bas).mono (by omega)) m_dict m_enumerate) λ vs H Q E h=>spF_parW (F:=λ ww ds=>callR N_q0 (B_q0 ww M_q22) ds) h
  have F_q21:=λ (base:Heap) (bas:Bas K mg base)=>ok_q21 (P:=l.prog) (w:=w) (base:=base) (k:=0) D_q21 
  have F_q16:=λ (base:Heap) (bas:Bas K mg base)=>ok_q16 (P:=l.prog) (w:=w) (base:=base) (k:=1) D_q16 D_q21 ((F_q21 base bas).mono (by omega)) m_len
  have F_q17:=λ (base:Heap) (bas:Bas K mg base)=>ok_q17 (P:=l.prog) (w:=w) (base:=base) (k:=0) D_q17 
  have F_q19:=λ (base:Heap) (bas:Bas K mg base)=>ok_q19 (P:=l.prog) (w:=w) (base:=base) (k:=1) D_q19 D_q17 ((F_q17 base bas).mono (by omega)) m_zip m_all m_any
  have F_q18:=λ (base:Heap) (bas:Bas K mg base)=>ok_q18 (P:=l.prog) (w:=w) (base:=base) (k:=2) D_q18 D_q19 (λ base bas=>(F_q19 base bas).mono (by omega)) D_q16 (λ base bas=>(F_q16 base bas).mono (by omega)) D_q21 (λ base bas=>(F_q21 base bas).mono (by omega)) D_q12 tb_q18 (tab_code tb_q18 a_q18 D_q18.fn l_q18) bas m_reversed
  have F_q6:=λ (base:Heap) (bas:Bas K mg base)=>ok_q6 (P:=l.prog) (w:=w) (base:=base) (k:=5) D_q6 D_q18 ((F_q18 base bas).mono (by omega)) D_q0 ((F_q0 base bas).mono (by omega)) m_enumerate m_len   X_NoWorld
  have F_q1:=λ (base:Heap) (bas:Bas K mg base)=>ok_q1 (P:=l.prog) (w:=w) (base:=base) (k:=6) D_q1 D_q6 ((F_q6 base bas).mono (by omega)) m_isinstance m_ValueError    X_YardError T_YardError g_NoWorld Y_ValueError Y_NoWorld
  have R_q7:∀ base:Heap,Bas K mg base->∀ n,FnOk l.prog w K mg base (CX1 l.prog w) (0 + n) f_q7 fd_q7 ps_q7 (spF K mg ps_q7.length (M_q7 n)):=λ base bas n=>by
    induction n with
    | zero=>exact fn_none
    | succ n IH=>exact ok_q7 (k:=0 + n) D_q7 IH 
  have F_q7:=λ (base:Heap) (bas:Bas K mg base)=>R_q7 base bas 6
  have F_q2:=λ (base:Heap) (bas:Bas K mg base)=>ok_q2 (P:=l.prog) (w:=w) (base:=base) (k:=0) D_q2 m_len m_isinstance m_tuple m_list m_sorted m_set m_all m_bool m_int
  have F_q15:=λ (base:Heap) (bas:Bas K mg base)=>ok_q15 (P:=l.prog) (w:=w) (base:=base) (k:=0) D_q15 m_isinstance m_bool m_int
  have F_q14:=λ (base:Heap) (bas:Bas K mg base)=>ok_q14 (P:=l.prog) (w:=w) (base:=base) (k:=1) D_q14 D_q15 ((F_q15 base bas).mono (by omega)) 
  have F_q8:=λ (base:Heap) (bas:Bas K mg base)=>ok_q8 (P:=l.prog) (w:=w) (base:=base) (k:=2) D_q8 D_q14 ((F_q14 base bas).mono (by omega)) m_len   X_NoWorld
  have F_q20:=λ (base:Heap) (bas:Bas K mg base)=>ok_q20 (P:=l.prog) (w:=w) (base:=base) (k:=5) D_q20 D_q8 ((F_q8 base bas).mono (by omega)) D_q18 ((F_q18 base bas).mono (by omega)) 
  have R_q5:∀ base:Heap,Bas K mg base->∀ n,FnOk l.prog w K mg base (CX1 l.prog w) (0 + n) f_q5 fd_q5 ps_q5 (spF K mg ps_q5.length (M_q5 n)):=λ base bas n=>by
    induction n with
    | zero=>exact fn_none
    | succ n IH=>exact ok_q5 (k:=0 + n) D_q5 IH m_all m_any
  have F_q5:=λ (base:Heap) (bas:Bas K mg base)=>R_q5 base bas 6
  have F_law:=λ (base:Heap) (bas:Bas K mg base)=>ok_law (P:=l.prog) (w:=w) (base:=base) (k:=7) D_law D_q11 ((F_q11 base bas).mono (by omega)) D_q9 ((F_q9 base bas).mono (by omega)) D_q4 ((F_q4 base bas).mono (by omega)) D_q7 ((F_q7 base bas).mono (by omega)) D_q1 ((F_q1 base bas).mono (by omega)) D_q6 ((F_q6 base bas).mono (by omega)) D_q2 ((F_q2 base bas).mono (by omega)) D_q20 ((F_q20 base bas).mono (by omega)) D_q5 ((F_q5 base bas).mono (by omega)) m_range m_len m_enumerate
  exact λ base bas=>FnOk.toL (F_law base bas)
end K14

namespace K14
open PySem PySem.Spec PyProof.Rows L2 Wy Wl Lw Pg L14
theorem law_true (ns:List Int) (hn:ns.length<=63):M_law [.lst (ns.map D.int)]=.ok (.bl true):=L14.law_ok (Mr:=M_q1) (λ Y s hY hl ho hs h0=>L14.refused hY hl s ho hs h0) ns hn
end K14

open PySem PySem.W PyProof.Rows
set_option maxRecDepth 100000 in
set_option maxHeartbeats 0 in
theorem PySem.Challenge.cw_worldyard_k14_whole_told_to_all_holds : PySem.Challenge.rw_worldyard_k14_whole_told_to_all.Holds := by
  w_on; o_law; k_head; (case hw=>w_witness2)
  k_fill
  refine Wy.walk (l:=PySem.Challenge.rw_worldyard_k14_whole_told_to_all) (CX:=λ w=>Wy.CX1 PySem.Challenge.rw_worldyard_k14_whole_told_to_all.prog w) (k:=8) (x:="_law_script") (F:=K14.M_law) rfl rfl ⟨rfl,by decide,by decide⟩ (λ w h Y=>PySem.W.km_in_of Y) K14.law_true ?T ?F (λ _ _ _ _ _ z=>Wy.cx1_E0 z)
  case T =>
    exact λ w lo mean mg mb h T X=>Wy.tabs0_of T X (Wy.tabs_one (by kernel_rfl))
  case F =>
    intro w mg fa h KX G hmg
    refine' K14.all_mk KX G hmg ?a_q9 ?l_q9 ?c_q9 ?k_q9 ?a_q13 ?l_q13 ?c_q13 ?k_q13 ?a_q11 ?l_q11 ?c_q11 ?k_q11 ?a_q4 ?l_q4 ?c_q4 ?k_q4 ?a_q10 ?l_q10 ?c_q10 ?k_q10 ?a_q3 ?l_q3 ?c_q3 ?k_q3 ?a_q22 ?l_q22 ?c_q22 ?k_q22 ?a_q0 ?l_q0 ?c_q0 ?k_q0 ?a_q21 ?l_q21 ?c_q21 ?k_q21 ?a_q16 ?l_q16 ?c_q16 ?k_q16 ?a_q12 ?l_q12 ?c_q12 ?k_q12 ?a_q17 ?l_q17 ?c_q17 ?k_q17 ?a_q19 ?l_q19 ?c_q19 ?k_q19 ?a_q18 ?l_q18 ?c_q18 ?k_q18 ?a_q6 ?l_q6 ?c_q6 ?k_q6 ?a_q1 ?l_q1 ?c_q1 ?k_q1 ?a_q7 ?l_q7 ?c_q7 ?k_q7 ?a_q2 ?l_q2 ?c_q2 ?k_q2 ?a_q15 ?l_q15 ?c_q15 ?k_q15 ?a_q14 ?l_q14 ?c_q14 ?k_q14 ?a_q8 ?l_q8 ?c_q8 ?k_q8 ?a_q20 ?l_q20 ?c_q20 ?k_q20 ?a_q5 ?l_q5 ?c_q5 ?k_q5 ?a_law ?l_law ?c_law ?k_law ?a_YardError ?l_YardError ?q_YardError' ?a_NoWorld ?l_NoWorld ?q_NoWorld' ?i_YardError_ValueError ?i_NoWorld_ValueError ?i_NoWorld_NoWorld ?z_len ?z_range ?z_enumerate ?z_tuple ?z_sorted ?z_set ?z_dict ?z_reversed ?z_zip ?z_all ?z_any ?z_isinstance ?z_ValueError ?z_list ?z_bool ?z_int ?tb_q18
    (case a_q9=>k_is)
    (case l_q9=>k_is)
    (case c_q9=>k_is)
    (case k_q9=>k_is)
    (case a_q13=>k_is)
    (case l_q13=>k_is)
    (case c_q13=>k_is)
    (case k_q13=>k_is)
    (case a_q11=>k_is)
    (case l_q11=>k_is)
    (case c_q11=>k_is)
    (case k_q11=>k_is)
    (case a_q4=>k_is)
    (case l_q4=>k_is)
    (case c_q4=>k_is)
    (case k_q4=>k_is)
    (case a_q10=>k_is)
    (case l_q10=>k_is)
    (case c_q10=>k_is)
    (case k_q10=>k_is)
    (case a_q3=>k_is)
    (case l_q3=>k_is)
    (case c_q3=>k_is)
    (case k_q3=>k_is)
    (case a_q22=>k_is)
    (case l_q22=>k_is)
    (case c_q22=>k_is)
    (case k_q22=>k_is)
    (case a_q0=>k_is)
    (case l_q0=>k_is)
    (case c_q0=>k_is)
    (case k_q0=>k_is)
    (case a_q21=>k_is)
    (case l_q21=>k_is)
    (case c_q21=>k_is)
    (case k_q21=>k_is)
    (case a_q16=>k_is)
    (case l_q16=>k_is)
    (case c_q16=>k_is)
    (case k_q16=>k_is)
    (case a_q12=>k_is)
    (case l_q12=>k_is)
    (case c_q12=>k_is)
    (case k_q12=>k_is)
    (case a_q17=>k_is)
    (case l_q17=>k_is)
    (case c_q17=>k_is)
    (case k_q17=>k_is)
    (case a_q19=>k_is)
    (case l_q19=>k_is)
    (case c_q19=>k_is)
    (case k_q19=>k_is)
    (case a_q18=>k_is)
    (case l_q18=>k_is)
    (case c_q18=>k_is)
    (case k_q18=>k_is)
    (case a_q6=>k_is)
    (case l_q6=>k_is)
    (case c_q6=>k_is)
    (case k_q6=>k_is)
    (case a_q1=>k_is)
    (case l_q1=>k_is)
    (case c_q1=>k_is)
    (case k_q1=>k_is)
    (case a_q7=>k_is)
    (case l_q7=>k_is)
    (case c_q7=>k_is)
    (case k_q7=>k_is)
    (case a_q2=>k_is)
    (case l_q2=>k_is)
    (case c_q2=>k_is)
    (case k_q2=>k_is)
    (case a_q15=>k_is)
    (case l_q15=>k_is)
    (case c_q15=>k_is)
    (case k_q15=>k_is)
    (case a_q14=>k_is)
    (case l_q14=>k_is)
    (case c_q14=>k_is)
    (case k_q14=>k_is)
    (case a_q8=>k_is)
    (case l_q8=>k_is)
    (case c_q8=>k_is)
    (case k_q8=>k_is)
    (case a_q20=>k_is)
    (case l_q20=>k_is)
    (case c_q20=>k_is)
    (case k_q20=>k_is)
    (case a_q5=>k_is)
    (case l_q5=>k_is)
    (case c_q5=>k_is)
    (case k_q5=>k_is)
    (case a_law=>k_is)
    (case l_law=>k_is)
    (case c_law=>k_is)
    (case k_law=>k_is)
    (case a_YardError=>k_is)
    (case l_YardError=>k_is)
    (case q_YardError'=>rfl)
    (case a_NoWorld=>k_is)
    (case l_NoWorld=>k_is)
    (case q_NoWorld'=>rfl)
    (case i_YardError_ValueError=>rfl)
    (case i_NoWorld_ValueError=>rfl)
    (case i_NoWorld_NoWorld=>rfl)
    (case z_len=>k_is)
    (case z_range=>k_is)
    (case z_enumerate=>k_is)
    (case z_tuple=>k_is)
    (case z_sorted=>k_is)
    (case z_set=>k_is)
    (case z_dict=>k_is)
    (case z_reversed=>k_is)
    (case z_zip=>k_is)
    (case z_all=>k_is)
    (case z_any=>k_is)
    (case z_isinstance=>k_is)
    (case z_ValueError=>k_is)
    (case z_list=>k_is)
    (case z_bool=>k_is)
    (case z_int=>k_is)
    (case tb_q18=>rfl)

