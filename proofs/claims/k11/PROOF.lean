import PyProof.Rows.All
import Wide.All
import OpenK.AllK
import Wide.FinOn
import Lean
import PyProof.EqAt
import PyProof.EqKinds
import PyProof.TupleCall
import PyProof.ExcBaseAll.ValueError
import PyProof.NsDelKeeps
import KE.KIsAll
import PyProof.NeKinds
import PyProof.Rows.StrJoin2
import PyProof.StrCalls3
import PyProof.MinMaxWalk
import PyProof.Rows.SortWalkRead
import PyProof.WalkInts
import KE.KMinBuiltin
import PyProof.SetNew
import PyProof.SetKind
import PyProof.Rows.SetFrom
import PyProof.WalksMore
import PyProof.ForAny
import PyProof.CollectIter
import PyProof.Rows.SortStr
import PyProof.ListRange
import PyProof.AttrMissHeap
import KE.KDictList
import KE.KSortKey
import PySem.Challenge.RW_worldyard_k11_whole_folded
set_option Elab.async false
set_option linter.all false
set_option maxRecDepth 100000

namespace L2
open PySem PySem.Spec PyProof.Rows
abbrev Key:=Sum Int Str
def keyIs:Key->Value->Bool
  | .inl k,v=>Value.isInt k v
  | .inr x,v=>Value.isStrOf x v
def keyH (w:World):Key->Int
  | .inl k=>hashInt k
  | .inr x=>hashStr w x
theorem keyIs_shape:∀ {k:Key} {v:Value},keyIs k v=true->(∃ i t,k=Sum.inl i/\v=Value.int i t)∨(∃ x t,k=Sum.inr x/\v=Value.str x t)
  | .inl i,v,h=>by
    obtain ⟨t,e⟩:=Value.isInt_shape (k:=i) (v:=v) h
    exact .inl ⟨i,t,rfl,e⟩
  | .inr x,v,h=>by
    obtain ⟨t,e⟩:=Value.isStrOf_shape (x:=x) (v:=v) h
    exact .inr ⟨x,t,rfl,e⟩
theorem key_ll (a b:Int):decide ((Sum.inl a:Key)=Sum.inl b)=(a == b):=by
  by_cases e:a=b
  · subst e; simp
  · have h:¬ (Sum.inl a:Key)=Sum.inl b:=λ q=>e (Sum.inl.inj q)
    rw [decide_eq_false h]
    exact (beq_eq_false_iff_ne.mpr e).symm
theorem key_rr (a b:Str):decide ((Sum.inr a:Key)=Sum.inr b)=decide (a=b):=by
  by_cases e:a=b
  · subst e; simp
  · have h:¬ (Sum.inr a:Key)=Sum.inr b:=λ q=>e (Sum.inr.inj q)
    rw [decide_eq_false h,decide_eq_false e]
theorem key_lr (a:Int) (b:Str):decide ((Sum.inl a:Key)=Sum.inr b)=false:=decide_eq_false (λ q=>nomatch q)
theorem key_rl (a:Str) (b:Int):decide ((Sum.inr a:Key)=Sum.inl b)=false:=decide_eq_false (λ q=>nomatch q)
def mixKind (prog:Program) (w:World):PySem.KeyKind prog w Key where
  is:=keyIs
  hash:=keyH w
  inj:=λ v a b ha hb=>by
    rcases keyIs_shape ha with ⟨i,t,rfl,rfl⟩ | ⟨x,t,rfl,rfl⟩
    · rcases keyIs_shape hb with ⟨j,u,rfl,e⟩ | ⟨y,u,rfl,e⟩
      · injection e with e1 _; rw [e1]
      · exact nomatch e
    · rcases keyIs_shape hb with ⟨j,u,rfl,e⟩ | ⟨y,u,rfl,e⟩
      · exact nomatch e
      · injection e with e1 _; rw [e1]
  byValue:=λ k v h=>by
    rcases keyIs_shape h with ⟨i,t,rfl,rfl⟩ | ⟨x,t,rfl,rfl⟩ <;> rfl
  pyHash:=λ hv h=>by
    rcases keyIs_shape hv with ⟨i,t,rfl,rfl⟩ | ⟨x,t,rfl,rfl⟩
    · exact wpAny_pyHash_int h
    · exact wpAny_pyHash_str h
  eqBool:=λ hu hv h=>by
    rcases keyIs_shape hu with ⟨i,t,rfl,rfl⟩ | ⟨x,t,rfl,rfl⟩
    · rcases keyIs_shape hv with ⟨j,u,rfl,rfl⟩ | ⟨y,u,rfl,rfl⟩
      · rw [key_ll] at h; exact wpAny_eqBool_int h
      · rw [key_lr] at h; exact SeqAt.EqAt.int_str i t y u _ _ _ _ h
    · rcases keyIs_shape hv with ⟨j,u,rfl,rfl⟩ | ⟨y,u,rfl,rfl⟩
      · rw [key_rl] at h; exact SeqAt.EqAt.str_int x t j u _ _ _ _ h
      · rw [key_rr] at h; exact wpAny_eqBool_str h
  «strs»:=λ k x t v h=>by
    rcases keyIs_shape h with ⟨i,u,rfl,e⟩ | ⟨y,u,rfl,e⟩
    · exact nomatch e
    · injection e with e1 _
      subst e1
      cases v <;> rfl
end L2
namespace L2
open PySem PySem.Spec PyProof.Rows
inductive V where
  | non | bl (b:Bool) | int (i:Int) | str (x:Str) | byt (b:Array UInt8) | flt (b:UInt64) | ref (a:Addr) | ty (n:String)
  deriving DecidableEq
def RelV:V->Value->Prop
  | .non,u=>u=Value.none
  | .bl b,u=>u=Value.bool b
  | .int i,u=>∃ t,u=Value.int i t
  | .str x,u=>∃ t,u=Value.str x t
  | .byt b,u=>∃ t,u=Value.bytes b t
  | .flt b,u=>∃ t,u=Value.float b t
  | .ref a,u=>u=Value.ref a
  | .ty n,u=>u=Value.type n
abbrev Vals:List V->List Value->Prop:=Paired RelV
theorem Vals.length {xs:List V} {us:List Value} (r:Vals xs us):xs.length=us.length:=Paired.length r
theorem Vals.get:∀ {xs:List V} {us:List Value} {i:Nat} {x:V},Vals xs us->xs[i]?=some x->∃ u,us[i]?=some u/\RelV x u
  | _,_,_,_,.nil,e=>by simp at e
  | _,_,0,_,.cons r _,e=>by simp at e; subst e; exact ⟨_,rfl,r⟩
  | _,_,i + 1,x,.cons _ t,e=>by
    obtain ⟨u,h1,h2⟩:=Vals.get (i:=i) (x:=x) t (by simpa using e)
    exact ⟨u,by simpa using h1,h2⟩
theorem Vals.append:∀ {xs ys:List V} {us ws:List Value},Vals xs us->Vals ys ws->Vals (xs++ys) (us++ws)
  | _,_,_,_,.nil,s=>s
  | _,_,_,_,.cons r t,s=>.cons r (Vals.append t s)
theorem Vals.take:∀ {xs:List V} {us:List Value} (n:Nat),Vals xs us->Vals (xs.take n) (us.take n)
  | _,_,0,_=>.nil
  | _,_,_ + 1,.nil=>.nil
  | _,_,n + 1,.cons r t=>.cons r (Vals.take n t)
theorem Vals.drop:∀ {xs:List V} {us:List Value} (n:Nat),Vals xs us->Vals (xs.drop n) (us.drop n)
  | _,_,0,r=>r
  | _,_,_ + 1,.nil=>.nil
  | _,_,n + 1,.cons _ t=>Vals.drop n t
def RelO:Option V->Option Value->Prop
  | some v,some u=>RelV v u
  | none,none=>True
  | _,_=>False
def KV {κ:Type}:List (κ×V)->List (κ×Value)->Prop:=Paired λ (p:κ×V) (q:κ×Value)=>p.1=q.1/\RelV p.2 q.2
def kV:Key->V
  | .inl i=>.int i
  | .inr x=>.str x
inductive HO where
  | lst (xs:List V)
  | tup (xs:List V)
  | dK (kvs:List (Key×V)) | dT (kvs:List (List Key×V))
  | set (S:Int->Bool) (n:Nat)
  | ins (C dx:Addr) (fs:List (Str×V))
  | own (x:Addr)
  | xd (fs:List (Str×V))
  | met (f x:Addr)
  | rng (lo hi:Int)
  | frz (o:Obj) (u:HO)
  | tbl (ps:Array Value)
  | ext (φ:Heap->Prop)
abbrev Hp:=Addr->Option HO
def upd (H:Hp) (a:Addr) (o:HO):Hp:=λ b=>if b=a then some o else H b
theorem upd_same {H:Hp} {a:Addr} {o:HO}:upd H a o a=some o:=by unfold upd; rw [if_pos rfl]
theorem upd_ne {H:Hp} {a b:Addr} {o:HO} (h:b≠a):upd H a o b=H b:=by unfold upd; rw [if_neg h]
theorem ne_of_none {H:Hp} {a b:Addr} {o:HO} (h:H a=some o) (h':H b=none):a≠b:=by
  intro e; subst e; rw [h] at h'; cases h'
section
variable (P:Program) (w:World)
def ObjOk (H:Hp) (h:Heap) (a:Addr):HO->Prop
  | .lst xs=>xs.length<=sizeLine/\∃ (its:List Value) (n:Nat),Vals xs its/\h.get? a=some { cls:=.type "list",data:=.seq its.toArray n }
  | .tup xs=>xs.length<=sizeLine/\∃ its:List Value,Vals xs its/\IsTup h a its.toArray
  | .dK kvs=>kvs.length<=sizeLine/\(a == sysModules)=false/\∃ vs,KV kvs vs/\h.DictOf (mixKind P w) a vs
  | .dT kvs=>kvs.length<=sizeLine/\(a == sysModules)=false/\∃ xs:List (List Key×Addr×Value),
      Paired (λ (p:List Key×V) (q:List Key×Addr×Value)=>p.1=q.1/\H q.2.1=some (.tup (p.1.map kV))/\RelV p.2 q.2.2) kvs xs /\
      ∃ o es ep,h.get? a=some o/\o.ExactDict/\o.data=.dict es ep/\es.toList=xs.map (entryOfKey (tupleKind (mixKind P w)))/\(xs.map (·.1)).Nodup
  | .set S n=>h.SetOf (intKind P w) a S n
  | .ins C dx fs=>H dx=some (.own a)/\fs.length<=1000/\dx≠a/\h.get? a=some (PySem.W.instObj C dx) /\
      ∃ mA,h.Ns1 dx mA/\(∀ f,RelO (fs.lookup f) (mA f))/\PySem.Within mA (fs.map (·.1))
  | .own _=>∃ o,h.get? a=some o
  | .xd fs=>∃ mA,h.Ns1 a mA/\∀ f,RelO (fs.lookup f) (mA f)
  | .rng lo hi=>∃ t u v,h.get? a=some { cls:=.type "range",data:=.fields #[.int lo t,.int hi u,.int 1 v] }
  | .frz o u=>h.get? a=some o/\ObjOk H h a u
  | .tbl ps=>h.get? a=some { cls:=.none,data:=.fields ps }
  | .met f x=>h.get? a=some (PySem.W.methodObj (.ref f) (.ref x))
  | .ext φ=>φ h/\(∃ o,h.get? a=some o)/\∀ h1 h2:Heap,φ h1->(∀ o,h1.get? a=some o->h2.get? a=some o)->φ h2
def HOk (H:Hp) (h:Heap):Prop:=∀ a o,H a=some o->ObjOk P w H h a o
end
section
variable {P:Program} {w:World} {H H':Hp} {h h':Heap} {a:Addr} {o:HO}
theorem ObjOk.lt (x:ObjOk P w H h a o):a < h.objs.size:=by
  cases o with
  | lst xs=>obtain ⟨_,_,_,_,e⟩:=x; exact Heap.lt_size e
  | tup xs=>obtain ⟨_,_,_,p⟩:=x; exact p.lt
  | dK kvs=>obtain ⟨_,_,_,_,o,_,_,e,_⟩:=x; exact Heap.lt_size e
  | dT kvs=>obtain ⟨_,_,_,_,o,_,_,e,_⟩:=x; exact Heap.lt_size e
  | set S n=>obtain ⟨o,_,_,_,e,_⟩:=x; exact Heap.lt_size e
  | ins C dx fs=>obtain ⟨_,_,_,e,_⟩:=x; exact Heap.lt_size e
  | own y=>obtain ⟨_,e⟩:=x; exact Heap.lt_size e
  | xd fs=>obtain ⟨_,⟨_,_,_,e,_⟩,_⟩:=x; exact Heap.lt_size e
  | rng lo hi=>obtain ⟨_,_,_,e⟩:=x; exact Heap.lt_size e
  | frz ob u=>obtain ⟨e,_⟩:=x; exact Heap.lt_size e
  | tbl ps=>exact Heap.lt_size (show h.get? a=some _ from x)
  | met f y=>exact Heap.lt_size (show h.get? a=some _ from x)
  | ext φ=>obtain ⟨_,⟨_,e⟩,_⟩:=x; exact Heap.lt_size e
theorem Paired.mapP {α β:Type} {F G:α->β->Prop}:∀ {l₁:List α} {l₂:List β},Paired F l₁ l₂->(∀ a b,F a b->G a b)->Paired G l₁ l₂
  | _,_,.nil,_=>.nil
  | _,_,.cons r t,f=>.cons (f _ _ r) (Paired.mapP t f)
theorem ObjOk.stay (x:ObjOk P w H h a o) (k:∀ b u,(b=a∨H b=some (.own a))->h.get? b=some u->h'.get? b=some u)
    (ho:∀ b,H b=some (.own a)->H' b=some (.own a)) (ht:∀ b xs,H b=some (.tup xs)->H' b=some (.tup xs)):ObjOk P w H' h' a o:=by
  induction o with
  | lst xs=>obtain ⟨z,its,n,r,e⟩:=x; exact ⟨z,its,n,r,k _ _ (.inl rfl) e⟩
  | tup xs=>obtain ⟨z,its,r,ob,e,c⟩:=x; exact ⟨z,its,r,ob,k _ _ (.inl rfl) e,c⟩
  | dK kvs=>obtain ⟨z,y,vs,r,ob,es,ep,e,c⟩:=x; exact ⟨z,y,vs,r,ob,es,ep,k _ _ (.inl rfl) e,c⟩
  | dT kvs =>
    obtain ⟨z,y,xs,r,ob,es,ep,e,c⟩:=x
    exact ⟨z,y,xs,Paired.mapP r λ p q z=>⟨z.1,ht _ _ z.2.1,z.2.2⟩,ob,es,ep,k _ _ (.inl rfl) e,c⟩
  | set S n=>obtain ⟨ob,es,ep,t,e,c⟩:=x; exact ⟨ob,es,ep,t,k _ _ (.inl rfl) e,c⟩
  | ins C dx fs =>
    obtain ⟨d,z,ne,e,mA,⟨od,es,ep,e2,c⟩,r⟩:=x
    exact ⟨ho _ d,z,ne,k _ _ (.inl rfl) e,mA,⟨od,es,ep,k _ _ (.inr d) e2,c⟩,r⟩
  | own y=>obtain ⟨ob,e⟩:=x; exact ⟨ob,k _ _ (.inl rfl) e⟩
  | xd fs=>obtain ⟨mA,⟨od,es,ep,e,c⟩,r⟩:=x; exact ⟨mA,⟨od,es,ep,k _ _ (.inl rfl) e,c⟩,r⟩
  | rng lo hi=>obtain ⟨t,u,v,e⟩:=x; exact ⟨t,u,v,k _ _ (.inl rfl) e⟩
  | frz ob u ih=>obtain ⟨e,q⟩:=x; exact ⟨k _ _ (.inl rfl) e,ih q⟩
  | tbl ps =>
    have e:h.get? a=some { cls:=.none,data:=.fields ps }:=x
    show h'.get? a=some { cls:=.none,data:=.fields ps }
    exact k a _ (.inl rfl) e
  | met f y =>
    have e:h.get? a=some (PySem.W.methodObj (.ref f) (.ref y)):=x
    show h'.get? a=some (PySem.W.methodObj (.ref f) (.ref y))
    exact k a _ (.inl rfl) e
  | ext φ=>obtain ⟨p,⟨o,e⟩,st⟩:=x; exact ⟨st _ _ p λ o q=>k _ _ (.inl rfl) q,⟨o,k _ _ (.inl rfl) e⟩,st⟩
theorem HOk.lt (x:HOk P w H h) (e:H a=some o):a < h.objs.size:=(x a o e).lt
theorem HOk.fresh (x:HOk P w H h) (e:h.objs.size<=a):H a=none:=by
  cases q:H a with
  | none=>rfl
  | some u=>exact absurd (Nat.lt_of_lt_of_le (x.lt q) e) (Nat.lt_irrefl _)
theorem HOk.kept (x:HOk P w H h) (k:∀ b u,h.get? b=some u->h'.get? b=some u):HOk P w H h':=λ a o e =>
  (x a o e).stay (λ b u _ q=>k b u q) (λ _ q=>q) λ _ _ q=>q
theorem HOk.laid (x:HOk P w H h) (k:∀ b u,h.get? b=some u->h'.get? b=some u) (hp:h.objs.size<=a) (new:ObjOk P w (upd H a o) h' a o):HOk P w (upd H a o) h':=λ b u e=>by
  have hn:=x.fresh hp
  by_cases hb:b=a
  · subst hb; rw [upd_same] at e; cases e; exact new
  · rw [upd_ne hb] at e
    exact (x b u e).stay (λ c v _ q=>k c v q) (λ c q=>by rw [upd_ne (ne_of_none q hn)]; exact q) λ c xs q=>by rw [upd_ne (ne_of_none q hn)]; exact q
end
def Rd (H:Hp) (a:Addr) (u:HO):Prop:=H a=some u∨∃ o,H a=some (.frz o u)
theorem Rd.ok {P:Program} {w:World} {H:Hp} {h:Heap} {a:Addr} {u:HO} (r:Rd H a u) (x:HOk P w H h):ObjOk P w H h a u:=by
  rcases r with r | ⟨o,r⟩
  · exact x a u r
  · obtain ⟨_,q⟩:=x a _ r
    exact q
def Mut:Option HO->Prop
  | some (.lst _)=>True
  | some (.dK _)=>True
  | some (.dT _)=>True
  | some (.set _ _)=>True
  | some (.ins _ _ _)=>True
  | some (.ext _)=>True
  | _=>False
section
variable {P:Program} {w:World} {H:Hp} {h h':Heap} {x e:Addr} {o':HO}
theorem HOk.write (ok:HOk P w H h) (mu:Mut (H x)) (he:e=x∨H e=some (.own x)) (k:∀ b u,b≠e->h.get? b=some u->h'.get? b=some u) (heo:∃ u,h'.get? e=some u)
    (new:ObjOk P w (upd H x o') h' x o'):HOk P w (upd H x o') h':=λ b u q=>by
  have nown:∀ c y,H c=some (.own y)->c≠x:=λ c y r z=>by subst z; rw [r] at mu; exact mu
  have ntup:∀ c xs,H c=some (.tup xs)->c≠x:=λ c xs r z=>by subst z; rw [r] at mu; exact mu
  by_cases hb:b=x
  · subst hb; rw [upd_same] at q; cases q; exact new
  · rw [upd_ne hb] at q
    by_cases hbe:b=e
    · have q':H b=some (.own x):=by
        rcases he with z | z
        · exact absurd (hbe.trans z) hb
        · rw [hbe]; exact z
      rw [q] at q'; cases q'
      obtain ⟨v,hv⟩:=heo
      exact ⟨v,by rw [hbe]; exact hv⟩
    · refine (ok b u q).stay (λ c v hc r=>k c v ?_ r) (λ c r=>by rw [upd_ne (nown c b r)]; exact r) λ c xs r=>by rw [upd_ne (ntup c xs r)]; exact r
      rcases hc with rfl | hc
      · exact hbe
      · rintro rfl
        rcases he with z | z
        · exact nown c b hc z
        · rw [hc] at z; cases z; exact hb rfl
end
structure Un (fs ex:List Addr) (H H':Hp) (h h':Heap):Prop where
  keep:∀ b o,h.get? b=some o->H b=none->b∉fs->b∉ex->h'.get? b=some o
  slot:∀ b o,h.get? b=some o->H b=none->b∈fs->b∉ex->∃ sl,h'.get? b=some { o with slots:=sl }
  free:∀ b o,h.get? b=some o->H b=none->b∉ex->H' b=none
  there:∀ b o,h.get? b=some o->b∉ex->∃ o',h'.get? b=some o'
  tups:∀ b xs,H b=some (.tup xs)->H' b=some (.tup xs)
  frzs:∀ b o u,H b=some (.frz o u)->H' b=some (.frz o u)
  tbls:∀ b ps,H b=some (.tbl ps)->∃ more,H' b=some (.tbl (ps++more))
section
variable {fs fs' ex ex':List Addr} {H H1 H2:Hp} {h h1 h2 h':Heap} {a x e:Addr} {o:HO}
theorem Un.any (u:Un fs ex H H1 h h1) {b:Addr} {ob:Obj} (q:h.get? b=some ob) (n:H b=none) (hx:b∉ex):∃ sl,h1.get? b=some { ob with slots:=sl }:=by
  by_cases hb:b∈fs
  · exact u.slot b ob q n hb hx
  · exact ⟨ob.slots,u.keep b ob q n hb hx⟩
theorem Un.kept (k:∀ b u,h.get? b=some u->h'.get? b=some u):Un fs ex H H h h' :=
  ⟨λ b ob q _ _ _=>k b ob q,λ b ob q _ _ _=>⟨ob.slots,k b ob q⟩,λ _ _ _ n _=>n,λ b ob q _=>⟨ob,k b ob q⟩,λ _ _ q=>q,λ _ _ _ q=>q,λ _ ps q=>⟨#[],by rw [q]; simp⟩⟩
theorem Un.refl:Un fs ex H H h h:=Un.kept λ _ _ q=>q
theorem Un.laid (k:∀ b u,h.get? b=some u->h'.get? b=some u) (hp:h.objs.size<=a) (hn:H a=none):Un fs ex H (upd H a o) h h' where
  keep:=λ b u q _ _ _=>k b u q
  slot:=λ b u q _ _ _=>⟨u.slots,k b u q⟩
  free:=λ b u q n _=>by rw [upd_ne (Nat.ne_of_lt (Nat.lt_of_lt_of_le (Heap.lt_size q) hp))]; exact n
  there:=λ b u q _=>⟨u,k b u q⟩
  tups:=λ b xs q=>by rw [upd_ne (ne_of_none q hn)]; exact q
  frzs:=λ b u xs q=>by rw [upd_ne (ne_of_none q hn)]; exact q
  tbls:=λ b ps q=>⟨#[],by rw [upd_ne (ne_of_none q hn),q]; simp⟩
theorem Un.write (mu:Mut (H x)) (he:e=x∨H e=some (.own x)) (k:∀ b u,b≠e->h.get? b=some u->h'.get? b=some u) (heo:∃ u,h'.get? e=some u):Un fs ex H (upd H x o) h h':=by
  have hx:∀ b,H b=none->b≠x:=λ b n z=>by subst z; rw [n] at mu; exact mu
  have hb:∀ b,H b=none->b≠e:=λ b n z=>by
    subst z
    rcases he with r | r
    · exact hx b n r
    · rw [n] at r; cases r
  have hm:∀ b u,H b=some u->¬ Mut (some u)->b≠x:=λ b u q nm z=>by subst z; rw [q] at mu; exact nm mu
  refine ⟨λ b u q n _ _=>k b u (hb b n) q,λ b u q n _ _=>⟨u.slots,k b u (hb b n) q⟩,λ b u q n _=>by rw [upd_ne (hx b n)]; exact n,λ b u q _=>?_,
    λ b xs q=>by rw [upd_ne (hm b _ q λ z=>z)]; exact q,λ b u xs q=>by rw [upd_ne (hm b _ q λ z=>z)]; exact q,λ b ps q=>⟨#[],by rw [upd_ne (hm b _ q λ z=>z),q]; simp⟩⟩
  by_cases hbe:b=e
  · subst hbe; exact heo
  · exact ⟨u,k b u hbe q⟩
end
def trk (h:Heap) (H:Hp):List Addr:=(List.range h.objs.size).filter λ a=>(H a).isSome
def hidT (h:Heap) (H:Hp):Heap:=PySem.W.hideAll h (trk h H)
theorem hidT_size (h:Heap) (H:Hp):(hidT h H).objs.size=h.objs.size:=PySem.W.hideAll_size _ _
theorem hidT_get {h:Heap} {H:Hp} {b:Addr} {o:Obj} (e:h.get? b=some o) (n:H b=none):(hidT h H).get? b=some o :=
  PySem.W.hideAll_get _ e λ hm=>by
    have q:(H b).isSome=true:=(List.mem_filter.mp hm).2
    rw [n] at q; simp at q
theorem of_hidT {h:Heap} {H:Hp} {b:Addr} {o:Obj} (e:(hidT h H).get? b=some o):h.get? b=some o/\H b=none:=by
  have e':h.get? b=some o:=PySem.W.of_hideAll (trk h H) e
  refine ⟨e',?_⟩
  cases q:H b with
  | none=>rfl
  | some x =>
    have hm:b∈trk h H:=List.mem_filter.mpr ⟨List.mem_range.mpr (Heap.lt_size e'),by simp [q]⟩
    have z:(hidT h H).get? b=none:=PySem.W.hideAll_none (trk h H) hm
    rw [z] at e; cases e
end L2
namespace L2
open PySem PySem.Spec PyProof.Rows
structure Mod (K:PySem.W.Frag) (mg:Str->Option Value) (base:Heap):Prop where
  kin:K.In base
  glob:base.Ns mainGlobals mg
  blt:∃ mb,base.Ns builtinsNs mb/\∀ x:Str,x≠"__name__"->mb x=bootBuiltins x
  nolimit:base.NoLimit
structure Cx where
  prog:Program
  w:World
  K:PySem.W.Frag
  mg:Str->Option Value
  base:Heap
  A:Around
  N:List Str
  s₀:Shared
  H₀:Hp
  env:Env
  outer:List Env
  stack:List Env
  ex:List Addr
  fn:Str->Bool
  calm:Bool
  pn:List (Addr×Obj)
  xe:Value->Shared->Prop
def frs (l:List Env):List Addr:=l.filterMap (·.frame)
abbrev Cx.fs (X:Cx):List Addr:=frs X.outer
def Vis (sc:Scope) (x:Str):Prop:=sc.names.lookup x=some .local∨sc.names.lookup x=some .cell∨sc.names.lookup x=some .free
def Loc (sc:Scope) (x:Str):Prop:=sc.names.lookup x=some .local∨sc.names.lookup x=some .cell
def Look (env:Env) (h:Heap) (m:Str->Option Value) (x:Str) (u:Value):Prop :=
  (env.kindOf x=some .local/\m x=some u)∨((env.kindOf x=some .cell∨env.kindOf x=some .free)/\∃ c,env.cells.lookup x=some c/\h.IsCell c (some u))
structure Cx.Ok (X:Cx):Prop where
  mod:Mod X.K X.mg X.base
  kind:X.env.scope.kind=.function
  glob:X.env.globals=mainGlobals
  blt:X.env.builtins=builtinsNs
  above:X.s₀.heap.objs.size<=X.env.locals
  inj:∀ x y c,X.env.cells.lookup x=some c->X.env.cells.lookup y=some c->x=y
  has:∀ x,(X.env.kindOf x=some .cell∨X.env.kindOf x=some .free)->∃ c,X.env.cells.lookup x=some c
  cab:∀ x c,X.fn x=true->X.env.cells.lookup x=some c->X.s₀.heap.objs.size<=c
  hd:X.calm=true->X.A.handled=none
  frames:X.A.frames=some X.stack
  stk:X.stack=X.outer∨(X.stack=X.env::X.outer/\X.env.frame=some X.env.locals)
  exf:∀ b∈X.ex,b≠X.env.locals/\∀ x c,X.env.cells.lookup x=some c->c≠b
  bs:∀ b o,X.base.get? b=some o->X.s₀.heap.get? b=some o/\X.H₀ b=none
  bsz:X.base.objs.size<=X.s₀.heap.objs.size
  noex:∀ b o,X.base.get? b=some o->b∉X.ex
  exfs:∀ b∈X.ex,b∉X.fs
  funs:X.s₀.heap.FunFrames X.base X.outer
  frf:∀ b∈X.fs,X.H₀ b=none
structure Inv (X:Cx) (pins:List (Addr×Obj)) (σ:List (Option V)) (H:Hp) (s:Shared):Prop where
  ok:X.Ok
  os:s.os=X.s₀.os
  bare:AllBare s.gens
  base:Un X.fs X.ex X.H₀ H X.s₀.heap s.heap
  loc:∃ m,s.heap.Ns X.env.locals m/\∀ (i:Nat) (x:Str) (v:V),X.N[i]?=some x->σ[i]?=some (some v)->Vis X.env.scope x->∃ u,RelV v u/\Look X.env s.heap m x u
  cell:∀ x c,X.env.cells.lookup x=some c->∃ v,s.heap.IsCell c v
  free:H X.env.locals=none
  freeC:∀ x c,X.env.cells.lookup x=some c->H c=none
  pin:∀ p∈X.pn++pins,s.heap.get? p.1=some p.2/\H p.1=none/\p.1≠X.env.locals/\p.1∉X.fs/\∀ v,p.2.data≠.cell v
  hok:HOk X.prog X.w H s.heap
  len:σ.length=X.N.length
section
variable {X:Cx} {pins:List (Addr×Obj)} {σ:List (Option V)} {H H':Hp} {s:Shared} {h':Heap}
theorem Cx.Ok.nofr (ok:X.Ok) {b:Addr} {o:Obj} (e:X.base.get? b=some o):b∉X.fs:=λ hb=>by
  have:=(ok.funs.mem hb).1
  rw [e] at this; cases this
theorem Inv.bs (I:Inv X pins σ H s):∀ b o,X.base.get? b=some o->s.heap.get? b=some o/\H b=none:=λ b o e =>
  ⟨I.base.keep b o (I.ok.bs b o e).1 (I.ok.bs b o e).2 (I.ok.nofr e) (I.ok.noex b o e),I.base.free b o (I.ok.bs b o e).1 (I.ok.bs b o e).2 (I.ok.noex b o e)⟩
theorem Inv.bk (I:Inv X pins σ H s):∀ b o,X.base.get? b=some o->s.heap.get? b=some o:=λ b o e=>(I.bs b o e).1
theorem Inv.mod (I:Inv X pins σ H s):Mod X.K X.mg X.base:=I.ok.mod
theorem Inv.kIn (I:Inv X pins σ H s):X.K.In s.heap:=I.ok.mod.kin.keeps I.bk
theorem Inv.lt (I:Inv X pins σ H s):X.env.locals < s.heap.objs.size:=let ⟨_,hn,_⟩:=I.loc; hn.lt
theorem Inv.sz (I:Inv X pins σ H s):X.s₀.heap.objs.size<=s.heap.objs.size:=Nat.le_trans I.ok.above (Nat.le_of_lt I.lt)
theorem Inv.nofs (I:Inv X pins σ H s) {a:Addr} (h:s.heap.objs.size<=a):a∉X.fs:=λ hb=>by
  obtain ⟨_,o,ho,_⟩:=I.ok.funs.mem hb
  exact absurd (Nat.lt_of_lt_of_le (Heap.lt_size ho) (Nat.le_trans I.sz h)) (Nat.lt_irrefl _)
theorem Inv.cne (I:Inv X pins σ H s):∀ x c,X.env.cells.lookup x=some c->c≠X.env.locals:=λ x c e z=>by
  obtain ⟨v,o,ho,hd⟩:=I.cell x c e
  obtain ⟨m,⟨o',es,ep,ho',hd',_⟩,_⟩:=I.loc
  rw [z,ho'] at ho; cases ho; rw [hd'] at hd; cases hd
theorem Inv.funs (I:Inv X pins σ H s):s.heap.FunFrames X.base X.outer:=by
  have all:∀ (l:List Env),(∀ b∈frs l,b∈X.fs)->X.s₀.heap.FunFrames X.base l->s.heap.FunFrames X.base l:=by
    intro l
    induction l with
    | nil=>intro _ _; trivial
    | cons env r ih =>
      intro hs hl
      obtain ⟨hk,⟨L,o,hf,hn,ho,hd⟩,hr⟩:=hl
      have hL:L∈X.fs:=hs L (by unfold frs; rw [List.filterMap_cons,hf]; exact List.mem_cons_self)
      obtain ⟨sl,e⟩:=I.base.slot L o ho (I.ok.frf L hL) hL λ z=>I.ok.exfs L z hL
      exact ⟨hk,⟨L,_,hf,hn,e,hd⟩,ih (λ b hb=>hs b (by unfold frs; rw [List.filterMap_cons,hf]; exact List.mem_cons_of_mem _ hb)) hr⟩
  exact all X.outer (λ _ hb=>hb) I.ok.funs
theorem Inv.stack (I:Inv X pins σ H s):s.heap.FunFrames X.base X.stack:=by
  rcases I.ok.stk with e | ⟨e,hf⟩
  · rw [e]; exact I.funs
  · rw [e]
    obtain ⟨m,hn,_⟩:=I.loc
    refine .cons (by rw [I.ok.kind]; decide) hf hn ?_ I.funs
    exact Heap.get?_none_of_le (Nat.le_trans I.ok.bsz I.ok.above)
theorem Inv.stkSub (I:Inv X pins σ H s):∀ b∈frs X.stack,b∈X.env.locals::X.fs:=λ b hb=>by
  rcases I.ok.stk with e | ⟨e,hf⟩
  · rw [e] at hb; exact List.mem_cons_of_mem _ hb
  · rw [e] at hb
    unfold frs at hb
    rw [List.filterMap_cons,hf] at hb
    exact hb
theorem Inv.stkFree (I:Inv X pins σ H s):∀ b∈frs X.stack,H b=none:=λ b hb=>by
  rcases List.mem_cons.mp (I.stkSub b hb) with e | hb
  · rw [e]; exact I.free
  · obtain ⟨_,o,ho,_⟩:=I.ok.funs.mem hb
    exact I.base.free b o ho (I.ok.frf b hb) λ z=>I.ok.exfs b z hb
theorem Inv.step {g':Array GenState} {t':Nat} {d':Drawn} {ch:List Addr} (I:Inv X pins σ H s)
    (hch:∀ b∈ch,(b∈X.ex∨X.s₀.heap.objs.size<=b)/\b≠X.env.locals/\(∀ x c,X.env.cells.lookup x=some c->c≠b)/\∀ p∈X.pn++pins,p.1≠b)
    (keep:∀ b o,b≠X.env.locals->b∉X.fs->b∉ch->s.heap.get? b=some o->H b=none->h'.get? b=some o)
    (slot:∀ b o,b≠X.env.locals->b∈X.fs->b∉ch->s.heap.get? b=some o->H b=none->∃ sl,h'.get? b=some { o with slots:=sl }) (free:∀ b o,b∉ch->s.heap.get? b=some o->H b=none->H' b=none)
    (there:∀ b o,b∉ch->s.heap.get? b=some o->∃ o',h'.get? b=some o')
    (tups:∀ b xs,H b=some (.tup xs)->H' b=some (.tup xs)) (frzs:∀ b o u,H b=some (.frz o u)->H' b=some (.frz o u)) (tbls:∀ b ps,H b=some (.tbl ps)->∃ more,H' b=some (.tbl (ps++more)))
    (ns:∀ m,s.heap.Ns X.env.locals m->h'.Ns X.env.locals m) (hok:HOk X.prog X.w H' h') (hg:AllBare g') :
    Inv X pins σ H' { s with heap:=h',gens:=g',drawn:=d',toks:=t' }:=by
  have neL:∀ b o,X.s₀.heap.get? b=some o->b≠X.env.locals:=λ b o e=>Nat.ne_of_lt (Nat.lt_of_lt_of_le (Heap.lt_size e) I.ok.above)
  have neC:∀ b o,X.s₀.heap.get? b=some o->b∉X.ex->b∉ch:=λ b o e hx hb=>by
    rcases (hch b hb).1 with z | z
    · exact hx z
    · exact absurd (Nat.lt_of_lt_of_le (Heap.lt_size e) z) (Nat.lt_irrefl _)
  have cellK:∀ x c,X.env.cells.lookup x=some c->∀ v,s.heap.IsCell c v->h'.IsCell c v:=λ x c e v ⟨o,ho,hd⟩=>by
    have nch:c∉ch:=λ z=>(hch c z).2.2.1 x c e rfl
    by_cases hc:c∈X.fs
    · obtain ⟨sl,q⟩:=slot c o (I.cne x c e) hc nch ho (I.freeC x c e)
      exact ⟨_,q,hd⟩
    · exact ⟨o,keep c o (I.cne x c e) hc nch ho (I.freeC x c e),hd⟩
  refine ⟨I.ok,I.os,hg,⟨λ b o e n hb hx=>?_,λ b o e n hb hx=>?_,λ b o e n hx=>?_,λ b o e hx=>?_,λ b xs e=>tups b xs (I.base.tups b xs e),λ b o xs e=>frzs b o xs (I.base.frzs b o xs e),λ b ps e=>?_⟩,?_,λ x c e=>?_,?_,λ x c e=>?_,λ p hp=>?_,hok,I.len⟩
  · exact keep b o (neL b o e) hb (neC b o e hx) (I.base.keep b o e n hb hx) (I.base.free b o e n hx)
  · obtain ⟨sl,e1⟩:=I.base.slot b o e n hb hx
    obtain ⟨sl',e2⟩:=slot b _ (neL b o e) hb (neC b o e hx) e1 (I.base.free b o e n hx)
    exact ⟨sl',e2⟩
  · obtain ⟨o',e1⟩:=I.base.there b o e hx
    exact free b o' (neC b o e hx) e1 (I.base.free b o e n hx)
  · obtain ⟨o',e1⟩:=I.base.there b o e hx
    exact there b o' (neC b o e hx) e1
  · obtain ⟨m1,e1⟩:=I.base.tbls b ps e
    obtain ⟨m2,e2⟩:=tbls b _ e1
    exact ⟨m1++m2,by rw [e2,Array.append_assoc]⟩
  · obtain ⟨m,hn,hl⟩:=I.loc
    refine ⟨m,ns m hn,λ i x v e1 e2 e3=>?_⟩
    obtain ⟨u,r,l⟩:=hl i x v e1 e2 e3
    refine ⟨u,r,?_⟩
    rcases l with l | ⟨k,c,e,z⟩
    · exact .inl l
    · exact .inr ⟨k,c,e,cellK x c e _ z⟩
  · obtain ⟨v,z⟩:=I.cell x c e
    exact ⟨v,cellK x c e v z⟩
  · obtain ⟨m,⟨o,_,_,ho,_⟩,_⟩:=I.loc
    exact free _ o (λ z=>(hch _ z).2.1 rfl) ho I.free
  · obtain ⟨v,o,ho,hd⟩:=I.cell x c e
    exact free c o (λ z=>(hch c z).2.2.1 x c e rfl) ho (I.freeC x c e)
  · obtain ⟨e,n,ne,nf,d⟩:=I.pin p hp
    have nch:p.1∉ch:=λ z=>(hch p.1 z).2.2.2 p hp rfl
    exact ⟨keep p.1 p.2 ne nf nch e n,free p.1 p.2 nch e n,ne,nf,d⟩
theorem Inv.un {t':Nat} (I:Inv X pins σ H s) (u:Un X.fs [] H H' s.heap h') (hok:HOk X.prog X.w H' h'):Inv X pins σ H' { s with heap:=h',toks:=t' }:=by
  obtain ⟨m,⟨o,es,ep,ho,r⟩,_⟩:=id I.loc
  obtain ⟨sl,hL⟩:=u.any ho I.free (by simp)
  exact I.step (g':=s.gens) (d':=s.drawn) (ch:=[]) (λ _ z=>nomatch z) (λ b o _ hb _ e n=>u.keep b o e n hb (by simp)) (λ b o _ hb _ e n=>u.slot b o e n hb (by simp)) (λ b o _ e n=>u.free b o e n (by simp)) (λ b o _ e=>u.there b o e (by simp)) u.tups u.frzs u.tbls (λ m' hm=>by
    obtain ⟨o',es',ep',ho',r'⟩:=hm
    rw [ho] at ho'; cases ho'
    exact ⟨_,es',ep',hL,r'⟩) hok I.bare
theorem Inv.call {g':Array GenState} {t':Nat} {d':Drawn} {ch:List Addr} (I:Inv X pins σ H s) (u:Un (frs X.stack) ch H H' s.heap h') (hok:HOk X.prog X.w H' h') (hg:AllBare g')
    (hch:∀ b∈ch,(b∈X.ex∨X.s₀.heap.objs.size<=b)/\b≠X.env.locals/\(∀ x c,X.env.cells.lookup x=some c->c≠b)/\∀ p∈X.pn++pins,p.1≠b) :
    Inv X pins σ H' { s with heap:=h',gens:=g',drawn:=d',toks:=t' }:=by
  obtain ⟨m,⟨o,es,ep,ho,r⟩,_⟩:=id I.loc
  obtain ⟨sl,hL⟩:=u.any ho I.free λ z=>(hch _ z).2.1 rfl
  exact I.step (ch:=ch) hch (λ b o hL hb hc e n=>u.keep b o e n (λ z=>(List.mem_cons.mp (I.stkSub b z)).elim hL hb) hc) (λ b o _ _ hc e n=>u.any e n hc) (λ b o hc e n=>u.free b o e n hc) (λ b o hc e=>u.there b o e hc) u.tups u.frzs u.tbls (λ m' hm=>by
    obtain ⟨o',es',ep',ho',r'⟩:=hm
    rw [ho] at ho'; cases ho'
    exact ⟨_,es',ep',hL,r'⟩) hok hg
theorem Inv.turned {t':Nat} {it:Addr} (I:Inv X pins σ H s) (k:∀ b o,b≠it->s.heap.get? b=some o->h'.get? b=some o) (hn:H it=none) (hL:it≠X.env.locals)
    (h1:it∈X.ex∨X.s₀.heap.objs.size<=it) (h2:∀ x c,X.env.cells.lookup x=some c->c≠it) (h3:∀ p∈X.pn++pins,p.1≠it):Inv X pins σ H { s with heap:=h',toks:=t' }:=by
  have nit:∀ b u,H b=some u->b≠it:=λ b u e z=>by rw [z,hn] at e; cases e
  refine I.step (g':=s.gens) (d':=s.drawn) (ch:=[it]) (λ b hb=>?_) (λ b o _ _ hc e _=>k b o (λ z=>hc (by simp [z])) e) (λ b o _ _ hc e _=>⟨o.slots,k b o (λ z=>hc (by simp [z])) e⟩) (λ _ _ _ _ n=>n)
    (λ b o hc e=>⟨o,k b o (λ z=>hc (by simp [z])) e⟩) (λ _ _ e=>e) (λ _ _ _ e=>e) (λ b ps e=>⟨#[],by rw [e]; simp⟩) (λ m hm=>?_) (λ b u e=>?_) I.bare
  · have e:b=it:=by simpa using hb
    subst e
    exact ⟨h1,hL,h2,h3⟩
  · obtain ⟨o,es,ep,ho,r⟩:=hm
    exact ⟨o,es,ep,k _ o (Ne.symm hL) ho,r⟩
  · refine (I.hok b u e).stay (λ c v hc q=>k c v ?_ q) (λ _ q=>q) λ _ _ q=>q
    rcases hc with z | z
    · rw [z]; exact nit b u e
    · exact nit c _ z
theorem Inv.tok (I:Inv X pins σ H s) (t:Nat):Inv X pins σ H { s with toks:=t }:=I.un (h':=s.heap) (t':=t) Un.refl I.hok
theorem Inv.kept {t':Nat} (I:Inv X pins σ H s) (k:∀ b u,s.heap.get? b=some u->h'.get? b=some u):Inv X pins σ H { s with heap:=h',toks:=t' }:=I.un (Un.kept k) (I.hok.kept k)
theorem Inv.laid {a:Addr} {o:HO} {t':Nat} (I:Inv X pins σ H s) (k:∀ b u,s.heap.get? b=some u->h'.get? b=some u) (hp:s.heap.objs.size<=a) (new:ObjOk X.prog X.w (upd H a o) h' a o) :
    Inv X pins σ (upd H a o) { s with heap:=h',toks:=t' }:=I.un (Un.laid k hp (I.hok.fresh hp)) (I.hok.laid k hp new)
theorem Inv.write {x e:Addr} {o:HO} {t':Nat} (I:Inv X pins σ H s) (mu:Mut (H x)) (he:e=x∨H e=some (.own x)) (k:∀ b u,b≠e->s.heap.get? b=some u->h'.get? b=some u) (heo:∃ u,h'.get? e=some u)
    (new:ObjOk X.prog X.w (upd H x o) h' x o):Inv X pins σ (upd H x o) { s with heap:=h',toks:=t' }:=I.un (Un.write mu he k heo) (I.hok.write mu he k heo new)
theorem Inv.pins_of {pins':List (Addr×Obj)} (I:Inv X pins σ H s) (h:∀ p∈pins',s.heap.get? p.1=some p.2/\H p.1=none/\p.1≠X.env.locals/\p.1∉X.fs/\∀ v,p.2.data≠.cell v):Inv X pins' σ H s :=
  ⟨I.ok,I.os,I.bare,I.base,I.loc,I.cell,I.free,I.freeC,λ p hp=>(List.mem_append.mp hp).elim (λ z=>I.pin p (List.mem_append_left _ z)) (h p),I.hok,I.len⟩
theorem nodup_ix {N:List Str} (hN:N.Nodup) {i j:Nat} {x:Str} (a:N[i]?=some x) (b:N[j]?=some x):i=j:=by
  obtain ⟨h1,e1⟩:=List.getElem?_eq_some_iff.mp a
  obtain ⟨h2,e2⟩:=List.getElem?_eq_some_iff.mp b
  exact (List.getElem_inj hN).mp (e1.trans e2.symm)
theorem store_ok2 {M:Model} {A:Around} {E:Value->Shared->Prop} {i:Nat} {x:Str} {v:V} {u:Value} {Q:Unit->Shared->Prop} (I:Inv X pins σ H s) (hN:X.N.Nodup) (hi:X.N[i]?=some x) (hx:Loc X.env.scope x) (r:RelV v u)
    (h:∀ s',Inv X pins (σ.set i (some v)) H s'->(∃ a,Heap.SameBut a s.heap s'.heap/\(a=X.env.locals∨X.env.cells.lookup x=some a))->Q () s') (hf:X.fn x=true∨X.env.scope.names.lookup x=some .local:=by first | exact .inl rfl | exact .inr rfl | assumption):wpAny M A (storeName X.env x u) Q E s:=by
  obtain ⟨m,hn,hl⟩:=id I.loc
  have hcls:(X.env.scope.kind == .class||(X.env.scope.kind == .module&&X.env.locals != X.env.globals))=false:=by rw [I.ok.kind]; rfl
  have hiσ:i < σ.length:=by rw [I.len]; exact (List.getElem?_eq_some_iff.mp hi).1
  have cne:=I.cne
  have tracked:∀ {a:Addr} {h':Heap},(∃ o,s.heap.get? a=some o/\H a=none)->Heap.SameBut a s.heap h'->HOk X.prog X.w H h':=λ {a h'} ha hs b ob e=>by
    obtain ⟨_,_,hfree⟩:=ha
    refine (I.hok b ob e).stay (λ c w' hc q=>(hs.2 c ?_).trans q) (λ _ q=>q) λ _ _ q=>q
    rintro rfl
    rcases hc with rfl | hc
    · rw [hfree] at e; cases e
    · rw [hfree] at hc; cases hc
  rcases hx with hk | hk
  · refine wpAny_storeName_local hk hn (λ h' hn' hs=>?_) hcls
    obtain ⟨oL,_,_,hoL,_⟩:=id hn
    refine h _ ⟨I.ok,I.os,I.bare,⟨λ b o e n hb hx=>?_,λ b o e n hb hx=>?_,I.base.free,λ b o e hx=>?_,I.base.tups,I.base.frzs,I.base.tbls⟩,⟨_,hn',λ j y v' e1 e2 e3=>?_⟩,λ y c e=>?_,I.free,I.freeC,λ p hp=>?_,tracked ⟨oL,hoL,I.free⟩ hs,by simpa using I.len⟩ ⟨_,hs,.inl rfl⟩
    · exact (hs.2 b (Nat.ne_of_lt (Nat.lt_of_lt_of_le (Heap.lt_size e) I.ok.above))).trans (I.base.keep b o e n hb hx)
    · obtain ⟨sl,e1⟩:=I.base.slot b o e n hb hx
      exact ⟨sl,(hs.2 b (Nat.ne_of_lt (Nat.lt_of_lt_of_le (Heap.lt_size e) I.ok.above))).trans e1⟩
    · obtain ⟨o',e1⟩:=I.base.there b o e hx
      exact ⟨o',(hs.2 b (Nat.ne_of_lt (Nat.lt_of_lt_of_le (Heap.lt_size e) I.ok.above))).trans e1⟩
    · by_cases hj:j=i
      · subst hj
        rw [hi] at e1; cases e1
        rw [List.getElem?_set_self hiσ] at e2
        cases e2
        exact ⟨u,r,.inl ⟨hk,by simp⟩⟩
      · rw [List.getElem?_set_ne (Ne.symm hj)] at e2
        obtain ⟨u',r',q⟩:=hl j y v' e1 e2 e3
        refine ⟨u',r',?_⟩
        rcases q with ⟨k,e⟩ | ⟨k,c,e,z⟩
        · refine .inl ⟨k,?_⟩
          have:y≠x:=λ e=>hj (nodup_ix hN e1 (e ▸ hi))
          simp [this,e]
        · exact .inr ⟨k,c,e,z.sameBut hs (cne y c e)⟩
    · obtain ⟨w',z⟩:=I.cell y c e
      exact ⟨w',z.sameBut hs (cne y c e)⟩
    · obtain ⟨e,n,ne,nf,d⟩:=I.pin p hp
      exact ⟨(hs.2 p.1 ne).trans e,n,ne,nf,d⟩
  · have hfn:X.fn x=true:=by
      rcases hf with z | z
      · exact z
      · rw [z] at hk; cases hk
    obtain ⟨c,hc⟩:=I.ok.has x (.inl hk)
    obtain ⟨w',z⟩:=I.cell x c hc
    refine wpAny_storeName_cell I.ok.kind hk hc z (λ h' hc' hs=>?_)
    obtain ⟨oc,hoc,hocd⟩:=id z
    refine h { s with heap:=h' } ⟨I.ok,I.os,I.bare,⟨λ b o e n hb hx=>?_,λ b o e n hb hx=>?_,I.base.free,λ b o e hx=>?_,I.base.tups,I.base.frzs,I.base.tbls⟩,⟨m,hn.sameBut hs (Ne.symm (cne x c hc)),λ j y v' e1 e2 e3=>?_⟩,λ y c' e=>?_,I.free,I.freeC,λ p hp=>?_,tracked ⟨oc,hoc,I.freeC x c hc⟩ hs,by simpa using I.len⟩ ⟨c,hs,.inr hc⟩
    · exact (hs.2 b (Nat.ne_of_lt (Nat.lt_of_lt_of_le (Heap.lt_size e) (I.ok.cab x c hfn hc)))).trans (I.base.keep b o e n hb hx)
    · obtain ⟨sl,e1⟩:=I.base.slot b o e n hb hx
      exact ⟨sl,(hs.2 b (Nat.ne_of_lt (Nat.lt_of_lt_of_le (Heap.lt_size e) (I.ok.cab x c hfn hc)))).trans e1⟩
    · obtain ⟨o',e1⟩:=I.base.there b o e hx
      exact ⟨o',(hs.2 b (Nat.ne_of_lt (Nat.lt_of_lt_of_le (Heap.lt_size e) (I.ok.cab x c hfn hc)))).trans e1⟩
    · by_cases hj:j=i
      · subst hj
        rw [hi] at e1; cases e1
        rw [List.getElem?_set_self hiσ] at e2
        cases e2
        exact ⟨u,r,.inr ⟨.inl hk,c,hc,hc'⟩⟩
      · rw [List.getElem?_set_ne (Ne.symm hj)] at e2
        obtain ⟨u',r',q⟩:=hl j y v' e1 e2 e3
        refine ⟨u',r',?_⟩
        rcases q with q | ⟨k,c',e,z'⟩
        · exact .inl q
        · refine .inr ⟨k,c',e,z'.sameBut hs ?_⟩
          rintro rfl
          exact hj (nodup_ix hN e1 (I.ok.inj _ _ _ e hc ▸ hi))
    · by_cases hcc:c'=c
      · subst hcc; exact ⟨_,hc'⟩
      · obtain ⟨w2,z2⟩:=I.cell y c' e
        exact ⟨w2,z2.sameBut hs hcc⟩
    · obtain ⟨e,n,ne,nf,d⟩:=I.pin p hp
      refine ⟨(hs.2 p.1 ?_).trans e,n,ne,nf,d⟩
      intro q
      rw [q,hoc] at e
      have q':oc=p.2:=Option.some.inj e
      exact d w' (by rw [<- q']; exact hocd)
theorem store_ok {M:Model} {A:Around} {E:Value->Shared->Prop} {i:Nat} {x:Str} {v:V} {u:Value} {Q:Unit->Shared->Prop} (I:Inv X pins σ H s) (hN:X.N.Nodup) (hi:X.N[i]?=some x) (hx:Loc X.env.scope x) (r:RelV v u)
    (h:∀ s',Inv X pins (σ.set i (some v)) H s'->Q () s') (hf:X.fn x=true∨X.env.scope.names.lookup x=some .local:=by first | exact .inl rfl | exact .inr rfl | assumption):wpAny M A (storeName X.env x u) Q E s :=
  store_ok2 I hN hi hx r (λ s' I' _=>h s' I') hf
theorem Inv.call' {s':Shared} {ch:List Addr} (I:Inv X pins σ H s) (ho:s'.os=s.os) (u:Un (frs X.stack) ch H H' s.heap s'.heap) (hok:HOk X.prog X.w H' s'.heap) (hg:AllBare s'.gens)
    (hch:∀ b∈ch,(b∈X.ex∨X.s₀.heap.objs.size<=b)/\b≠X.env.locals/\(∀ x c,X.env.cells.lookup x=some c->c≠b)/\∀ p∈X.pn++pins,p.1≠b):Inv X pins σ H' s':=by
  obtain ⟨h',g',d',t',o'⟩:=s'
  have e:o'=s.os:=ho
  subst e
  exact I.call (g':=g') (t':=t') (d':=d') u hok hg hch
end
abbrev XK:=Value->Option Addr->Hp->Prop
abbrev St:=List (Option V)
abbrev VK:=V->Hp->Prop
abbrev TE:=St->Hp->VK->Prop
abbrev TT:=St->Hp->(Bool->Hp->Prop)->Prop
abbrev TA:=St->Hp->(List V->Hp->Prop)->Prop
structure Ends where
  nx:St->Hp->Prop
  rt:VK
  bk:St->Hp->Prop:=λ _ _=>False
  ct:St->Hp->Prop:=λ _ _=>False
abbrev TS:=Ends->St->Hp->Prop
def EP (X:Cx) (pins:List (Addr×Obj)) (σ:St) (Q:VK) (u:Value) (s':Shared):Prop:=∃ v H',Inv X pins σ H' s'/\RelV v u/\Q v H'
def TP (X:Cx) (pins:List (Addr×Obj)) (σ:St) (Q:Bool->Hp->Prop) (b:Bool) (s':Shared):Prop:=∃ H',Inv X pins σ H' s'/\Q b H'
def AP (X:Cx) (pins:List (Addr×Obj)) (σ:St) (Q:List V->Hp->Prop) (us:List Value) (s':Shared):Prop:=∃ vs H',Inv X pins σ H' s'/\Vals vs us/\Q vs H'
def SP (X:Cx) (pins:List (Addr×Obj)) (D:Ends) (f:Flow) (s':Shared):Prop :=
  match f with
  | .next=>∃ σ' H',Inv X pins σ' H' s'/\D.nx σ' H'
  | .brk=>∃ σ' H',Inv X pins σ' H' s'/\D.bk σ' H'
  | .cont=>∃ σ' H',Inv X pins σ' H' s'/\D.ct σ' H'
  | .ret u=>∃ v σ' H',Inv X pins σ' H' s'/\RelV v u/\D.rt v H'
def PE (X:Cx) (e:Expr) (t:TE):Prop :=
  ∀ (pins:List (Addr×Obj)) (s:Shared) (σ:St) (H:Hp) (Q:VK),Inv X pins σ H s->t σ H Q->wpAny (model X.prog X.w) X.A (eval e X.env) (EP X pins σ Q) X.xe s
def PT (X:Cx) (e:Expr) (t:TT):Prop :=
  ∀ (pins:List (Addr×Obj)) (s:Shared) (σ:St) (H:Hp) (Q:Bool->Hp->Prop),Inv X pins σ H s->t σ H Q->wpAny (model X.prog X.w) X.A (isTrue e X.env (eval e X.env)) (TP X pins σ Q) X.xe s
def PW (X:Cx) (e:Expr) (t:TT):Prop :=
  ∀ (whole:Sem Value) (pins:List (Addr×Obj)) (s:Shared) (σ:St) (H:Hp) (Q:Bool->Hp->Prop),Inv X pins σ H s->t σ H Q->wpAny (model X.prog X.w) X.A (isTrue e X.env whole) (TP X pins σ Q) X.xe s
theorem PW.pt {X:Cx} {e:Expr} {t:TT} (h:PW X e t):PT X e t:=h _
def PA (X:Cx) (es:List Expr) (t:TA):Prop :=
  ∀ (pos:Pos) (pins:List (Addr×Obj)) (s:Shared) (σ:St) (H:Hp) (Q:List V->Hp->Prop),Inv X pins σ H s->t σ H Q->wpAny (model X.prog X.w) X.A (spliced (backTo pos (starEach es X.env))) (AP X pins σ Q) X.xe s
def PS (X:Cx) (st:Stmt) (t:TS):Prop :=
  ∀ (pins:List (Addr×Obj)) (s:Shared) (σ:St) (H:Hp) (D:Ends),Inv X pins σ H s->t D σ H->wpAny (model X.prog X.w) X.A (exec st X.env) (SP X pins D) X.xe s
def PSs (X:Cx) (st:List Stmt) (t:TS):Prop :=
  ∀ (pins:List (Addr×Obj)) (s:Shared) (σ:St) (H:Hp) (D:Ends),Inv X pins σ H s->t D σ H->wpAny (model X.prog X.w) X.A (execs st X.env) (SP X pins D) X.xe s
theorem thn {α:Type} {t:Sem α} {Q Q':α->Shared->Prop} {M:Model} {A:Around} {E:Value->Shared->Prop} {s:Shared} (h:wpAny M A t Q E s) (hQ:∀ a s,Q a s->Q' a s):wpAny M A t Q' E s:=wpAny_mono h hQ λ _ _ x=>x
end L2
namespace L2
open PySem PySem.Spec PyProof.Rows
section
variable {X:Cx}
def tVar (i:Nat):TE:=λ σ H Q=>∃ v,σ[i]?=some (some v)/\Q v H
def tC (v:V):TE:=λ _ H Q=>Q v H
theorem pe_var {i:Nat} {x:Str} {pos:Pos} (hN:X.N[i]?=some x) (hv:Vis X.env.scope x) (hd:(x == ("__debug__":Str))=false:=by decide) (hcd:(x == ("__classdict__":Str))=false:=by decide):PE X (.Name x pos) (tVar i):=by
  intro pins s σ H Q I h
  obtain ⟨v,e,h⟩:=h
  obtain ⟨m,hn,hl⟩:=I.loc
  obtain ⟨u,r,l⟩:=hl i x v hN e hv
  have fin:EP X pins σ Q u s:=⟨v,H,I,r,h⟩
  rcases l with ⟨hk,hm⟩ | ⟨hk,c,hc,hcell⟩
  · exact wpAny_Name (wpAny_loadName_local I.ok.kind hk hn hm fin) hd
  · rcases hk with hk | hk
    · exact wpAny_Name (wpAny_loadName_cell I.ok.kind hk hc hcell fin) hd
    · exact wpAny_Name (wpAny_loadName_free I.ok.kind hk hc hcell fin hcd) hd
theorem pe_int {i j pos}:PE X (.Constant (.int i) j pos) (tC (.int i)):=λ _ _ _ H _ I h=>wpAny_Constant_int ⟨.int i,H,I.tok _,⟨_,rfl⟩,h⟩
theorem pe_bl {b j pos}:PE X (.Constant (.bool b) j pos) (tC (.bl b)):=λ _ _ _ H _ I h=>Constant_bool ⟨.bl b,H,I,rfl,h⟩
theorem pe_str {x j pos}:PE X (.Constant (.str x) j pos) (tC (.str x)):=λ _ _ _ H _ I h=>Calls.Constant_str ⟨.str x,H,I.tok _,⟨_,rfl⟩,h⟩
def Gl (X:Cx) (x:Str):Prop:=X.env.kindOf x=some .globalImplicit
theorem ld_glob {E:Value->Shared->Prop} {pins:List (Addr×Obj)} {s:Shared} {σ:St} {H:Hp} {x:Str} {u:Value} {pos:Pos} {Q:Value->Shared->Prop} (I:Inv X pins σ H s) (hg:Gl X x) (hm:X.mg x=some u) (h:Q u s)
    (hd:(x == ("__debug__":Str))=false:=by decide):wpAny (model X.prog X.w) X.A (eval (.Name x pos) X.env) Q E s :=
  Calls.Name_function_global I.ok.kind hg (Calls.loadGlobal_global (by rw [I.ok.glob]; exact I.mod.glob.keeps I.bk) hm h) hd
theorem ld_blt {E:Value->Shared->Prop} {pins:List (Addr×Obj)} {s:Shared} {σ:St} {H:Hp} {x:Str} {u:Value} {pos:Pos} {Q:Value->Shared->Prop} (I:Inv X pins σ H s) (hg:Gl X x) (hm:X.mg x=none) (hv:bootBuiltins x=some u) (h:Q u s)
    (hn:x≠"__name__":=by decide) (hd:(x == ("__debug__":Str))=false:=by decide):wpAny (model X.prog X.w) X.A (eval (.Name x pos) X.env) Q E s:=by
  obtain ⟨mb,h1,h2⟩:=I.mod.blt
  exact Calls.Name_function_global I.ok.kind hg (Calls.loadGlobal_builtin (by rw [I.ok.glob]; exact I.mod.glob.keeps I.bk) hm (by rw [I.ok.blt]; exact h1.keeps I.bk) ((h2 x hn).trans hv) h) hd
theorem pe_bltn {x:Str} {v:V} {u:Value} {pos:Pos} (hg:Gl X x) (hm:X.mg x=none) (hv:bootBuiltins x=some u) (r:RelV v u) (hn:x≠"__name__":=by decide) (hd:(x == ("__debug__":Str))=false:=by decide):PE X (.Name x pos) (tC v) :=
  λ _ _ _ H _ I h=>ld_blt I hg hm hv ⟨v,H,I,r,h⟩ hn hd
variable {a b:Expr} {ta tb:TE} {pos:Pos}
variable {tA tB':TT} {rest:List Expr}
def tAnd (t u:TT):TT:=λ σ H Q=>t σ H λ c H1=>if c=true then u σ H1 Q else Q false H1
def tOr (t u:TT):TT:=λ σ H Q=>t σ H λ c H1=>if c=true then Q true H1 else u σ H1 Q
def tNot (t:TT):TT:=λ σ H Q=>t σ H λ c H1=>Q (!c) H1
theorem pw_and1 (ha:PT X a tA):PW X (.BoolOp .And [a] pos) tA:=by
  intro wh pins s σ H Q I h
  refine isTrue_and (thn (ha pins s σ H Q I h) λ c s1 e=>?_)
  cases c with
  | true=>exact isTrue_and_nil e
  | false=>exact e
theorem pw_or1 (ha:PT X a tA):PW X (.BoolOp .Or [a] pos) tA:=by
  intro wh pins s σ H Q I h
  refine isTrue_or (thn (ha pins s σ H Q I h) λ c s1 e=>?_)
  cases c with
  | false=>exact isTrue_or_nil e
  | true=>exact e
theorem pw_and (ha:PT X a tA) (hb:PW X (.BoolOp .And (b::rest) pos) tB'):PW X (.BoolOp .And (a::b::rest) pos) (tAnd tA tB'):=by
  intro wh pins s σ H Q I h
  refine isTrue_and (thn (ha pins s σ H _ I h) λ c s1 ⟨H1,I1,q1⟩=>?_)
  cases c with
  | true=>exact hb wh pins s1 σ H1 Q I1 q1
  | false=>exact ⟨H1,I1,q1⟩
theorem pw_or (ha:PT X a tA) (hb:PW X (.BoolOp .Or (b::rest) pos) tB'):PW X (.BoolOp .Or (a::b::rest) pos) (tOr tA tB'):=by
  intro wh pins s σ H Q I h
  refine isTrue_or (thn (ha pins s σ H _ I h) λ c s1 ⟨H1,I1,q1⟩=>?_)
  cases c with
  | true=>exact ⟨H1,I1,q1⟩
  | false=>exact hb wh pins s1 σ H1 Q I1 q1
theorem pt_not (ha:PT X a tA):PT X (.UnaryOp .Not a pos) (tNot tA):=by
  intro pins s σ H Q I h
  exact isTrue_not (ha pins s σ H (λ c H1=>Q (!c) H1) I h)
def tAndV (ta tb:TE):TE:=λ σ H Q=>ta σ H λ x H1=>∃ c,x=.bl c/\if c=true then tb σ H1 Q else Q (.bl false) H1
def tOrV (ta tb:TE):TE:=λ σ H Q=>ta σ H λ x H1=>∃ c,x=.bl c/\if c=true then Q (.bl true) H1 else tb σ H1 Q
def tNotV (ta:TE):TE:=λ σ H Q=>ta σ H λ x H1=>∃ c,x=.bl c/\Q (.bl (!c)) H1
theorem pe_one {op} {t:TE} (h:PE X a t):PE X (.BoolOp op [a] pos) t:=λ pins s σ H Q I hw=>BoolOp_one (h pins s σ H Q I hw)
theorem pe_and (ha:PE X a ta) (hb:PE X (.BoolOp .And (b::rest) pos) tb):PE X (.BoolOp .And (a::b::rest) pos) (tAndV ta tb):=by
  intro pins s σ H Q I h
  refine BoolOp_and (thn (ha pins s σ H _ I h) λ v s1 ⟨x,H1,I1,r1,q1⟩=>?_)
  obtain ⟨c,rfl,q1⟩:=q1
  cases r1
  refine wpAny_truthy_bool ?_
  cases c with
  | true=>exact hb pins s1 σ H1 Q I1 q1
  | false=>exact ⟨.bl false,H1,I1,rfl,q1⟩
theorem pe_or (ha:PE X a ta) (hb:PE X (.BoolOp .Or (b::rest) pos) tb):PE X (.BoolOp .Or (a::b::rest) pos) (tOrV ta tb):=by
  intro pins s σ H Q I h
  refine BoolOp_or (thn (ha pins s σ H _ I h) λ v s1 ⟨x,H1,I1,r1,q1⟩=>?_)
  obtain ⟨c,rfl,q1⟩:=q1
  cases r1
  refine wpAny_truthy_bool ?_
  cases c with
  | false=>exact hb pins s1 σ H1 Q I1 q1
  | true=>exact ⟨.bl true,H1,I1,rfl,q1⟩
theorem pe_not (ha:PE X a ta):PE X (.UnaryOp .Not a pos) (tNotV ta):=by
  intro pins s σ H Q I h
  refine UnaryOp_ (thn (ha pins s σ H _ I h) λ v s1 ⟨x,H1,I1,r1,q1⟩=>?_)
  obtain ⟨c,rfl,q1⟩:=q1
  cases r1
  exact not_of (wpAny_truthy_bool ⟨.bl (!c),H1,I1,rfl,q1⟩)
end
end L2
namespace L2
open PySem PySem.Spec PyProof.Rows
def SqL (K:PySem.W.Frag) (H:Hp) (a:Addr) (xs:List V):Prop :=
  Rd H a (.lst xs) ∨
    ∃ (o:Obj) (its:Array Value) (n:Nat),K.lookup a=some o/\o.cls=.type "list"/\o.dict=none/\o.data=.seq its n/\its.size<=sizeLine/\Vals xs its.toList
def SqT (K:PySem.W.Frag) (H:Hp) (a:Addr) (xs:List V):Prop :=
  Rd H a (.tup xs) ∨
    ∃ (o:Obj) (its:Array Value) (n:Nat),K.lookup a=some o/\o.cls=.type "tuple"/\o.data=.seq its n/\its.size<=sizeLine/\Vals xs its.toList
def absV:Value->Option V
  | .none=>some .non
  | .bool b=>some (.bl b)
  | .int i _=>some (.int i)
  | .str x _=>some (.str x)
  | .bytes b _=>some (.byt b)
  | .float b _=>some (.flt b)
  | .ref a=>some (.ref a)
  | .type n=>some (.ty n)
  | _=>none
theorem RelV.abs {x:V} {u:Value} (r:RelV x u):absV u=some x:=by
  cases x with
  | non=>cases r; rfl
  | bl _=>cases r; rfl
  | int _=>obtain ⟨t,rfl⟩:=r; rfl
  | str _=>obtain ⟨t,rfl⟩:=r; rfl
  | byt _=>obtain ⟨t,rfl⟩:=r; rfl
  | flt _=>obtain ⟨t,rfl⟩:=r; rfl
  | ref _=>cases r; rfl
  | ty _=>cases r; rfl
theorem RelV.inj {x y:V} {u:Value} (r:RelV x u) (q:RelV y u):x=y:=Option.some.inj (r.abs.symm.trans q.abs)
theorem Vals.inj:∀ {xs ys:List V} {us:List Value},Vals xs us->Vals ys us->xs=ys
  | _,_,_,.nil,.nil=>rfl
  | _,_,_,.cons r t,.cons r' t'=>by rw [r.inj r',Vals.inj t t']
section
variable {X:Cx} {pins:List (Addr×Obj)} {σ:St} {H:Hp} {s:Shared} {a:Addr} {xs ys:List V}
theorem SqL.of {K:PySem.W.Frag} (h:H a=some (.lst xs)):SqL K H a xs:=.inl (.inl h)
theorem SqT.of {K:PySem.W.Frag} (h:H a=some (.tup xs)):SqT K H a xs:=.inl (.inl h)
theorem Inv.list (I:Inv X pins σ H s) (h:SqL X.K H a xs):∃ its:List Value,Vals xs its/\PlainL s.heap a its.toArray/\xs.length<=sizeLine:=by
  rcases h with h | ⟨o,its,n,hk,hc,hd,hs,hz,r⟩
  · obtain ⟨z,its,n,r,e⟩:=h.ok I.hok
    exact ⟨its,r,⟨_,n,e,rfl,rfl,rfl⟩,z⟩
  · refine ⟨its.toList,r,⟨o,n,I.kIn a o hk,hc,hd,by simpa using hs⟩,?_⟩
    have e:=r.length
    simp only [Array.length_toList] at e
    omega
theorem Inv.tuple (I:Inv X pins σ H s) (h:SqT X.K H a xs):∃ its:List Value,Vals xs its/\IsTup s.heap a its.toArray/\xs.length<=sizeLine:=by
  rcases h with h | ⟨o,its,n,hk,hc,hs,hz,r⟩
  · obtain ⟨z,its,r,p⟩:=h.ok I.hok
    exact ⟨its,r,p,z⟩
  · refine ⟨its.toList,r,⟨o,I.kIn a o hk,hc,n,by simpa using hs⟩,?_⟩
    have e:=r.length
    simp only [Array.length_toList] at e
    omega
theorem Inv.list_inj (I:Inv X pins σ H s) (h:SqL X.K H a xs) (h':SqL X.K H a ys):xs=ys:=by
  obtain ⟨its,r,⟨o,n,e,_,_,d⟩,_⟩:=I.list h
  obtain ⟨its',r',⟨o',n',e',_,_,d'⟩,_⟩:=I.list h'
  rw [e] at e'; cases e'
  rw [d] at d'
  injection d' with d1 _
  have:its=its':=by simpa using congrArg Array.toList d1
  subst this
  exact r.inj r'
theorem Inv.tuple_inj (I:Inv X pins σ H s) (h:SqT X.K H a xs) (h':SqT X.K H a ys):xs=ys:=by
  obtain ⟨its,r,⟨o,e,_,n,d⟩,_⟩:=I.tuple h
  obtain ⟨its',r',⟨o',e',_,n',d'⟩,_⟩:=I.tuple h'
  rw [e] at e'; cases e'
  rw [d] at d'
  injection d' with d1 _
  have:its=its':=by simpa using congrArg Array.toList d1
  subst this
  exact r.inj r'
end
abbrev Cx.wish (X:Cx) (E:Value->Shared->Prop):Cx:={ X with xe:=E }
theorem Cx.Ok.wish {X:Cx} (ok:X.Ok) (E:Value->Shared->Prop):(X.wish E).Ok :=
  ⟨ok.mod,ok.kind,ok.glob,ok.blt,ok.above,ok.inj,ok.has,ok.cab,ok.hd,ok.frames,ok.stk,ok.exf,ok.bs,ok.bsz,ok.noex,ok.exfs,ok.funs,ok.frf⟩
theorem Cx.Ok.unwish {X:Cx} {E:Value->Shared->Prop} (ok:(X.wish E).Ok):X.Ok :=
  ⟨ok.mod,ok.kind,ok.glob,ok.blt,ok.above,ok.inj,ok.has,ok.cab,ok.hd,ok.frames,ok.stk,ok.exf,ok.bs,ok.bsz,ok.noex,ok.exfs,ok.funs,ok.frf⟩
section
variable {X:Cx} {pins:List (Addr×Obj)} {σ:St} {H:Hp} {s:Shared} {E:Value->Shared->Prop}
theorem Inv.wish (I:Inv X pins σ H s) (E:Value->Shared->Prop):Inv (X.wish E) pins σ H s:=⟨I.ok.wish E,I.os,I.bare,I.base,I.loc,I.cell,I.free,I.freeC,I.pin,I.hok,I.len⟩
theorem Inv.unwish (I:Inv (X.wish E) pins σ H s):Inv X pins σ H s:=⟨I.ok.unwish,I.os,I.bare,I.base,I.loc,I.cell,I.free,I.freeC,I.pin,I.hok,I.len⟩
theorem SP.unwish {D:Ends} {f:Flow} {s':Shared} (h:SP (X.wish E) pins D f s'):SP X pins D f s':=by
  cases f with
  | next=>obtain ⟨σ',H',I,q⟩:=h; exact ⟨σ',H',I.unwish,q⟩
  | brk=>obtain ⟨σ',H',I,q⟩:=h; exact ⟨σ',H',I.unwish,q⟩
  | cont=>obtain ⟨σ',H',I,q⟩:=h; exact ⟨σ',H',I.unwish,q⟩
  | ret u=>obtain ⟨v,σ',H',I,r,q⟩:=h; exact ⟨v,σ',H',I.unwish,r,q⟩
end
section
variable {X:Cx} {st:Stmt} {rest:List Stmt} {t u:TS} {e:Expr} {te:TE} {pos:Pos}
def tNext:TS:=λ D σ H=>D.nx σ H
def tSeq (t u:TS):TS:=λ D σ H=>t { D with nx:=u D } σ H
theorem pss_nil:PSs X [] tNext:=λ _ _ σ H _ I h=>wpAny_execs_nil ⟨σ,H,I,h⟩
theorem pss_cons (h1:PS X st t) (h2:PSs X rest u):PSs X (st::rest) (tSeq t u):=by
  intro pins s σ H D I h
  refine wpAny_execs_cons (thn (h1 pins s σ H { D with nx:=u D } I h) λ f s1 q=>?_)
  cases f with
  | next =>
    obtain ⟨σ',H',I',q⟩:=q
    exact h2 pins s1 σ' H' D I' q
  | ret v=>exact q
  | brk=>exact q
  | cont=>exact q
theorem pss_one (h1:PS X st t):PSs X [st] t:=by
  intro pins s σ H D I h
  refine wpAny_execs_cons (thn (h1 pins s σ H D I h) λ f s1 q=>?_)
  cases f with
  | next=>exact wpAny_execs_nil q
  | ret v=>exact q
  | brk=>exact q
  | cont=>exact q
theorem Inv.quiet {pins:List (Addr×Obj)} {σ:St} {H:Hp} {s:Shared} (I:Inv X pins σ H s):interactive X.env=false:=by simp [interactive,I.ok.kind]
def tDrop (te:TE):TS:=λ D σ H=>te σ H λ _ H1=>D.nx σ H1
theorem ps_expr (he:PE X e te) (hs:swapsWith e none pos.line X.env=pure false:=by rfl):PS X (.Expr e pos) (tDrop te):=by
  intro pins s σ H D I h
  exact wpAny_Expr_any (thn (he pins s σ H _ I h) λ v s1 ⟨x,H1,I1,r1,q1⟩=>⟨σ,H1,I1,q1⟩) I.quiet hs
def tRet (te:TE):TS:=λ D σ H=>te σ H D.rt
theorem ps_ret (he:PE X e te):PS X (.Return (some e) pos) (tRet te):=by
  intro pins s σ H D I h
  exact wpAny_Return_some (thn (he pins s σ H _ I h) λ v s1 ⟨x,H1,I1,r1,q1⟩=>⟨x,σ,H1,I1,r1,q1⟩)
def tIfS (c:TT) (t u:TS):TS:=λ D σ H=>c σ H λ b H1=>if b=true then t D σ H1 else u D σ H1
theorem ps_if {c:Expr} {a b:List Stmt} {tc:TT} (hc:PT X c tc) (ha:PSs X a t) (hb:PSs X b u):PS X (.If c a b pos) (tIfS tc t u):=by
  intro pins s σ H D I h
  refine wpAny_If (thn (hc pins s σ H _ I h) λ d s1 ⟨H1,I1,q1⟩=>?_)
  cases d with
  | true=>exact ha pins s1 σ H1 D I1 q1
  | false=>exact hb pins s1 σ H1 D I1 q1
end
abbrev TG:=V->St->Hp->(St->Hp->Prop)->Prop
abbrev TGs:=List V->St->Hp->(St->Hp->Prop)->Prop
def PG (X:Cx) (target:Expr) (t:TG):Prop :=
  ∀ (pins:List (Addr×Obj)) (s:Shared) (σ:St) (H:Hp) (v:V) (u:Value) (Q:St->Hp->Prop),Inv X pins σ H s->RelV v u->t v σ H Q ->
    wpAny (model X.prog X.w) X.A (assign target X.env u) (λ _ s'=>∃ σ' H',Inv X pins σ' H' s'/\Q σ' H') X.xe s
def PGs (X:Cx) (ts:List Expr) (t:TGs):Prop :=
  ∀ (pins:List (Addr×Obj)) (s:Shared) (σ:St) (H:Hp) (vs:List V) (us:List Value) (Q:St->Hp->Prop),Inv X pins σ H s->Vals vs us->t vs σ H Q ->
    wpAny (model X.prog X.w) X.A (assignInOrder ((assignEach ts X.env).map (·.2)) us) (λ _ s'=>∃ σ' H',Inv X pins σ' H' s'/\Q σ' H') X.xe s
section
variable {X:Cx} {pos:Pos}
def gName (i:Nat):TG:=λ v σ H Q=>Q (σ.set i (some v)) H
theorem pg_name {i:Nat} {x:Str} (hN:X.N.Nodup) (hi:X.N[i]?=some x) (hx:Loc X.env.scope x) (hf:X.fn x=true∨X.env.scope.names.lookup x=some .local:=by first | exact .inl rfl | exact .inr rfl | assumption):PG X (.Name x pos) (gName i):=by
  intro pins s σ H v u Q I r h
  exact wpAny_assign_Name (store_ok I hN hi hx r (λ s' I'=>⟨_,H,I',h⟩) hf)
def gNil:TGs:=λ vs σ H Q=>vs=[]/\Q σ H
def gCons (t:TG) (u:TGs):TGs:=λ vs σ H Q=>∃ v r,vs=v::r/\t v σ H λ σ' H'=>u r σ' H' Q
theorem pgs_nil:PGs X [] gNil:=by
  intro pins s σ H vs us Q I r h
  obtain ⟨e,h⟩:=h
  subst e
  cases r
  exact assignInOrder_nil ⟨σ,H,I,h⟩
theorem pgs_cons {e:Expr} {es:List Expr} {t:TG} {u:TGs} (h1:PG X e t) (h2:PGs X es u)
    (hs:(assignEach (e::es) X.env).map (·.2)=assign e X.env::(assignEach es X.env).map (·.2):=by rfl):PGs X (e::es) (gCons t u):=by
  intro pins s σ H vs us Q I r h
  obtain ⟨v,vr,e1,h⟩:=h
  subst e1
  cases r with
  | cons r rr =>
    rw [hs]
    refine assignInOrder_cons (thn (h1 pins s σ H _ _ _ I r h) λ _ s1 ⟨σ1,H1,I1,q1⟩=>?_)
    exact h2 pins s1 σ1 H1 _ _ Q I1 rr q1
def gTup (K:PySem.W.Frag) (n:Nat) (t:TGs):TG:=λ v σ H Q=>∃ a xs,v=.ref a/\SqT K H a xs/\xs.length=n/\t xs σ H Q
theorem pg_tup {es:List Expr} {k:Nat} {t:TGs} {n:Nat} (hc:X.calm=true) (h:PGs X es t)
    (hn:(assignEach es X.env).length=n:=by rfl) (hst:(assignEach es X.env).findIdx? (·.1)=none:=by rfl):PG X (.Tuple es k pos) (gTup X.K n t):=by
  intro pins s σ H v u Q I r hw
  obtain ⟨a,xs,e1,hq,hl,hw⟩:=hw
  subst e1
  cases r
  obtain ⟨its,rv,ht,hz⟩:=I.tuple hq
  refine assign_Tuple_tuple (I.ok.hd hc) ht (by simp [hn,<- hl,rv.length]) hst λ h' hx=>?_
  have I1:Inv X pins σ H { s with heap:=h' }:=I.kept (t':=s.toks) λ b o e=>hx b o (Nat.ne_of_lt (Heap.lt_size e)) e
  exact h pins _ σ H xs _ Q I1 (by simpa using rv) hw
def tAsg (te:TE) (g:TG):TS:=λ D σ H=>te σ H λ x H1=>g x σ H1 D.nx
theorem ps_set {i:Nat} {x:Str} {e:Expr} {te:TE} {pos':Pos} (hN:X.N.Nodup) (hi:X.N[i]?=some x) (hx:Loc X.env.scope x) (he:PE X e te) (hs:swapsWith e (some (.Name x pos')) pos.line X.env=pure false:=by rfl) (hf:X.fn x=true∨X.env.scope.names.lookup x=some .local:=by first | exact .inl rfl | exact .inr rfl | assumption) :
    PS X (.Assign [.Name x pos'] e pos) (tAsg te (gName i)):=by
  intro pins s σ H D I h
  refine wpAny_Assign_Name (thn (he pins s σ H _ I h) λ v s1 ⟨y,H1,I1,r1,q1⟩=>?_) hs
  exact store_ok I1 hN hi hx r1 (λ s2 I2=>⟨_,H1,I2,q1⟩) hf
end
section
variable {X:Cx} {pos:Pos}
def tWhile (c:TT) (tb:TS):TS:=λ D σ H=>∃ W:Nat->St->Hp->Prop,(∃ m,W m σ H)/\∀ m σ H,W m σ H ->
  c σ H λ b H1=>if b=true then ∃ N:St->Hp->Prop,(∀ σ' H',N σ' H'->∃ m',m' < m/\W m' σ' H')/\tb { D with nx:=N,ct:=N,bk:=D.nx } σ H1 else D.nx σ H1
theorem ps_while {c:Expr} {body:List Stmt} {tc:TT} {tb:TS} (hp:PassesOwn (model X.prog X.w) X.A X.env X.xe) (hc:PT X c tc) (hb:PSs X body tb):PS X (.While c body [] pos) (tWhile tc tb):=by
  intro pins s σ H D I h
  obtain ⟨W,⟨m0,w0⟩,turn⟩:=h
  refine wpAny_While (codeAny_whileLoop (λ n s'=>∃ σ' H',Inv X pins σ' H' s'/\W n σ' H') ?_ m0 ⟨σ,H,I,w0⟩)
  rintro n s1 ⟨σ1,H1,I1,w1⟩
  refine wpAny_passesOwn hp (thn (hc pins s1 σ1 H1 _ I1 (turn n σ1 H1 w1)) λ b s2 ⟨H2,I2,q2⟩=>?_)
  cases b with
  | true =>
    obtain ⟨N,hN,q2⟩:=q2
    rw [if_pos rfl]
    refine wpAny_passesOwn hp (thn (hb pins s2 σ1 H2 _ I2 q2) λ f s3 q3=>?_)
    cases f with
    | next =>
      obtain ⟨σ3,H3,I3,n3⟩:=q3
      obtain ⟨m',hm,w3⟩:=hN σ3 H3 n3
      exact ⟨m',hm,σ3,H3,I3,w3⟩
    | cont =>
      obtain ⟨σ3,H3,I3,n3⟩:=q3
      obtain ⟨m',hm,w3⟩:=hN σ3 H3 n3
      exact ⟨m',hm,σ3,H3,I3,w3⟩
    | brk=>exact q3
    | ret v=>exact q3
  | false =>
    rw [if_neg Bool.false_ne_true]
    exact wpAny_execs_nil ⟨σ1,H2,I2,q2⟩
end
structure It where
  go:Nat->Hp->Prop
  yld:Nat->Hp->V->Hp->Prop
  stop:Nat->Hp->Prop
def FpOk (X:Cx) (pins:List (Addr×Obj)) (H:Hp) (b:Addr):Prop :=
  H b=none/\b≠X.env.locals/\b∉X.fs/\(b∈X.ex∨X.s₀.heap.objs.size<=b)/\(∀ x c,X.env.cells.lookup x=some c->c≠b)/\∀ p∈X.pn++pins,p.1≠b
theorem Inv.fpOk {X:Cx} {pins:List (Addr×Obj)} {σ:St} {H H':Hp} {s:Shared} {b:Addr} (I:Inv X pins σ H s) (hb:s.heap.objs.size<=b) (hn:H' b=none):FpOk X pins H' b:=by
  refine ⟨hn,Nat.ne_of_gt (Nat.lt_of_lt_of_le I.lt hb),I.nofs hb,.inr (Nat.le_trans I.sz hb),λ x c e z=>?_,λ p hp z=>?_⟩
  · obtain ⟨v,q⟩:=I.cell x c e
    exact absurd (Nat.lt_of_lt_of_le q.lt (by rw [z]; exact hb)) (Nat.lt_irrefl _)
  · exact absurd (Nat.lt_of_lt_of_le (Heap.lt_size (I.pin p hp).1) (by rw [z]; exact hb)) (Nat.lt_irrefl _)
structure Turn (P:Program) (w:World) (K:PySem.W.Frag) (tg:Expr) (J:It) (fp:List Addr) (it:Addr) (tn:Nat->Heap->Prop):Prop where
  mem:it∈fp
  obj:∀ i h,tn i h->∀ b∈fp,∃ o,h.get? b=some o/\∀ v,o.data≠.cell v
  keep:∀ i h h',tn i h->(∀ b∈fp,∀ o,h.get? b=some o->h'.get? b=some o)->tn i h'
  item:∀ (X:Cx),X.prog=P->X.w=w->X.K=K->X.calm=true->∀ (i:Nat) (pins:List (Addr×Obj)) (s:Shared) (σ:St) (H:Hp) (E:Value->Shared->Prop),Inv X pins σ H s->(∀ b∈fp,FpOk X pins H b)->tn i s.heap->J.go i H ->
    wpAny (model P w) X.A (pyNext (.ref it)) (λ r s1=>∃ u,r=some u /\
      wpAny (model P w) X.A (letOwnedTupleGo tg (.ref it) u) (λ _ s2=>∃ x H',Inv X pins σ H' s2/\RelV x u/\J.yld i H x H'/\tn (i + 1) s2.heap/\∀ b∈fp,H' b=none) E s1) E s
  done:∀ (X:Cx),X.prog=P->X.w=w->X.K=K->X.calm=true->∀ (i:Nat) (pins:List (Addr×Obj)) (s:Shared) (σ:St) (H:Hp) (E:Value->Shared->Prop),Inv X pins σ H s->(∀ b∈fp,FpOk X pins H b)->tn i s.heap->J.stop i H ->
    wpAny (model P w) X.A (pyNext (.ref it)) (λ r s1=>r=none/\Inv X pins σ H s1) E s
  self:∀ (A:Around) (i:Nat) (s:Shared) (Q:Value->Shared->Prop) (E:Value->Shared->Prop),tn i s.heap->Q (.ref it) s->wpAny (model P w) A (pyIter (.ref it)) Q E s
abbrev TI:=St->Hp->(It->Hp->Prop)->Prop
def PIE (X:Cx) (pins:List (Addr×Obj)) (σ:St) (tg:Expr) (R:It->Hp->Prop) (itv:Value) (s2:Shared):Prop :=
  ∃ (it:Addr) (fp:List Addr) (tn:Nat->Heap->Prop) (J:It) (H':Hp),itv=.ref it/\Inv X pins σ H' s2/\Turn X.prog X.w X.K tg J fp it tn/\tn 0 s2.heap/\(∀ b∈fp,FpOk X pins H' b)/\R J H'
def PI (X:Cx) (tg iter:Expr) (wi:TI):Prop :=
  ∀ (pins:List (Addr×Obj)) (s:Shared) (σ:St) (H:Hp) (R:It->Hp->Prop),Inv X pins σ H s->wi σ H R ->
    wpAny (model X.prog X.w) X.A (eval iter X.env) (λ v s1=>wpAny (model X.prog X.w) X.A (pyIter v) (PIE X pins σ tg R) X.xe s1) X.xe s
theorem go_of {M:Model} {A:Around} {E:Value->Shared->Prop} {s:Shared} {tg:Expr} {it:Addr} {u:Value} {o:Obj} {n:String} {vs:Array Value} {Q:Unit->Shared->Prop} (ho:s.heap.get? it=some o) (hc:o.cls=.type n) (hd:o.data=.fields vs)
    (hn:["enumerate","zip","dict_itemiterator","dict_reverseitemiterator","odict_iterator","itertools.zip_longest","itertools.pairwise"].contains n=false) (hQ:Q () s):wpAny M A (letOwnedTupleGo tg (.ref it) u) Q E s:=by
  unfold letOwnedTupleGo
  cases tg <;> first
    | exact wpAny_pure hQ
    | (cases u <;> first
        | exact wpAny_pure hQ
        | (refine wpAny_bind (wpAny_load ho ?_)
           rw [hc,hd]
           show wpAny M A (if (["enumerate","zip","dict_itemiterator","dict_reverseitemiterator","odict_iterator","itertools.zip_longest","itertools.pairwise"].contains n&&vs[0]? == some (rawInt _))=true then _ else _) Q E s
           rw [if_neg (by intro h; rw [hn,Bool.false_and] at h; cases h)]
           exact wpAny_pure hQ))
def Itl (K:PySem.W.Frag) (a:Addr):It :=
  ⟨λ i H=>∃ xs x,SqL K H a xs/\xs[i]?=some x,λ i H x H'=>H'=H/\∀ xs,SqL K H a xs->xs[i]?=some x,λ i H=>∃ xs,SqL K H a xs/\xs.length<=i⟩
def Itt (K:PySem.W.Frag) (a:Addr):It :=
  ⟨λ i H=>∃ xs x,SqT K H a xs/\xs[i]?=some x,λ i H x H'=>H'=H/\∀ xs,SqT K H a xs->xs[i]?=some x,λ i H=>∃ xs,SqT K H a xs/\xs.length<=i⟩
def Itr (lo:Int) (n:Nat):It:=⟨λ i _=>i < n,λ i H x H'=>H'=H/\x=.int (lo + i),λ i _=>n<=i⟩
theorem turn_list {P:Program} {w:World} {K:PySem.W.Frag} {tg:Expr} (a it:Addr):Turn P w K tg (Itl K a) [it] it (λ i h=>h.IsListIter it a i) where
  mem:=by simp
  obj:=λ i h st b hb=>by
    have e:b=it:=by simpa using hb
    subst e
    obtain ⟨o,e,c,d⟩:=st
    exact ⟨o,e,λ v z=>by rw [d] at z; cases z⟩
  keep:=λ i h h' st k=>st.at λ o e=>k it (by simp) o e
  item:=by
    intro X hP hw hK hc i pins s σ H E I hf st hg
    subst hP hw hK
    obtain ⟨xs,x,hq,hx⟩:=hg
    obtain ⟨its,rv,p,hz⟩:=I.list hq
    obtain ⟨u,hu,ru⟩:=rv.get hx
    obtain ⟨f0,f1,f2,f3,f4,f5⟩:=hf it (by simp)
    refine wpAny_pyNext_list_item st p.isList (x:=u) (by simpa using hu) λ h' st' sb=>?_
    have I1:Inv X pins σ H { s with heap:=h' }:=I.turned (t':=s.toks) (λ b o hb e=>(sb.2 b hb).trans e) f0 f1 f3 f4 f5
    obtain ⟨o,e,c,d⟩:=id st'
    exact ⟨u,rfl,go_of (s:={ s with heap:=h' }) e c d (by decide) ⟨x,H,I1,ru,⟨rfl,λ ys hy=>by rw [I.list_inj hy hq]; exact hx⟩,st',λ b hb=>(hf b hb).1⟩⟩
  done:=by
    intro X hP hw hK hc i pins s σ H E I hf st hg
    subst hP hw hK
    obtain ⟨xs,hq,hx⟩:=hg
    obtain ⟨its,rv,p,hz⟩:=I.list hq
    obtain ⟨f0,f1,f2,f3,f4,f5⟩:=hf it (by simp)
    have hl:=rv.length
    exact wpAny_pyNext_list_end (I.ok.hd hc) st p.isList (by simp; omega) λ h' eb=>⟨rfl,I.turned (t':=s.toks) (λ b o hb e=>eb b o hb e) f0 f1 f3 f4 f5⟩
  self:=λ _ _ _ _ _ st h=>wpAny_pyIter_listiter st h
theorem turn_tuple {P:Program} {w:World} {K:PySem.W.Frag} {tg:Expr} (a it:Addr):Turn P w K tg (Itt K a) [it] it (λ i h=>h.IsTupleIter it a i) where
  mem:=by simp
  obj:=λ i h st b hb=>by
    have e:b=it:=by simpa using hb
    subst e
    obtain ⟨o,e,c,d⟩:=st
    exact ⟨o,e,λ v z=>by rw [d] at z; cases z⟩
  keep:=λ i h h' st k=>st.at λ o e=>k it (by simp) o e
  item:=by
    intro X hP hw hK hc i pins s σ H E I hf st hg
    subst hP hw hK
    obtain ⟨xs,x,hq,hx⟩:=hg
    obtain ⟨its,rv,p,hz⟩:=I.tuple hq
    obtain ⟨u,hu,ru⟩:=rv.get hx
    obtain ⟨f0,f1,f2,f3,f4,f5⟩:=hf it (by simp)
    refine wpAny_pyNext_tuple_item st (show s.heap.IsTuple a its.toArray from p) (x:=u) (by simpa using hu) λ h' st' sb=>?_
    have I1:Inv X pins σ H { s with heap:=h' }:=I.turned (t':=s.toks) (λ b o hb e=>(sb.2 b hb).trans e) f0 f1 f3 f4 f5
    obtain ⟨o,e,c,d⟩:=id st'
    exact ⟨u,rfl,go_of (s:={ s with heap:=h' }) e c d (by decide) ⟨x,H,I1,ru,⟨rfl,λ ys hy=>by rw [I.tuple_inj hy hq]; exact hx⟩,st',λ b hb=>(hf b hb).1⟩⟩
  done:=by
    intro X hP hw hK hc i pins s σ H E I hf st hg
    subst hP hw hK
    obtain ⟨xs,hq,hx⟩:=hg
    obtain ⟨its,rv,p,hz⟩:=I.tuple hq
    obtain ⟨f0,f1,f2,f3,f4,f5⟩:=hf it (by simp)
    have hl:=rv.length
    exact wpAny_pyNext_tuple_end (I.ok.hd hc) st (show s.heap.IsTuple a its.toArray from p) (by simp; omega) λ h' eb=>⟨rfl,I.turned (t':=s.toks) (λ b o hb e=>eb b o hb e) f0 f1 f3 f4 f5⟩
  self:=λ _ _ _ _ _ st h=>wpAny_pyIter_tupleiter st h
theorem turn_range {P:Program} {w:World} {K:PySem.W.Frag} {tg:Expr} (it:Addr) (lo:Int) (n:Nat):Turn P w K tg (Itr lo n) [it] it (λ i h=>IsRangeIter h it (lo + (i:Nat) * 1) ((n:Int) - (i:Nat)) 1) where
  mem:=by simp
  obj:=λ i h st b hb=>by
    have e:b=it:=by simpa using hb
    subst e
    exact ⟨_,st,λ v z=>by
      have z':Data.fields _=Data.cell v:=z
      cases z'⟩
  keep:=λ i h h' st k=>k it (by simp) _ st
  item:=by
    intro X hP hw hK hc i pins s σ H E I hf st hg
    subst hP hw hK
    obtain ⟨f0,f1,f2,f3,f4,f5⟩:=hf it (by simp)
    have W:=Walks.range (prog:=X.prog) (w:=X.w) (I.ok.hd hc) it lo 1 n
    refine W.item i s _ _ hg st λ v h' tk hv st' kk=>?_
    obtain ⟨t,rfl⟩:=hv
    have I1:Inv X pins σ H { s with heap:=h',toks:=tk }:=I.turned (λ b o hb e=>kk b o (by simpa using hb) e) f0 f1 f3 f4 f5
    refine ⟨_,rfl,go_of (s:={ s with heap:=h',toks:=tk }) (n:="range_iterator") st' rfl rfl (by decide) ⟨.int (lo + i),H,I1,⟨t,?_⟩,⟨rfl,rfl⟩,st',λ b hb=>(hf b hb).1⟩⟩
    rw [Int.mul_one]
  done:=by
    intro X hP hw hK hc i pins s σ H E I hf st hg
    subst hP hw hK
    obtain ⟨f0,f1,f2,f3,f4,f5⟩:=hf it (by simp)
    exact wpAny_pyNext_range_end (I.ok.hd hc) st (by have:n<=i:=hg; omega) λ h' eb=>⟨rfl,I.turned (t':=s.toks) (λ b o hb e=>eb b o hb e) f0 f1 f3 f4 f5⟩
  self:=λ _ _ _ _ _ st h=>wpAny_pyIter_rangeiter st h
end L2
namespace L2
open PySem PySem.Spec PyProof.Rows
section
variable {X:Cx} {tg:Expr}
def iList (K:PySem.W.Frag) (tl:TE):TI:=λ σ H R=>tl σ H λ x H1=>∃ a,x=.ref a/\(∃ xs,SqL K H1 a xs)/\R (Itl K a) H1
def iTup (K:PySem.W.Frag) (tl:TE):TI:=λ σ H R=>tl σ H λ x H1=>∃ a,x=.ref a/\(∃ xs,SqT K H1 a xs)/\R (Itt K a) H1
theorem pi_list {l:Expr} {tl:TE} (hl:PE X l tl):PI X tg l (iList X.K tl):=by
  intro pins s σ H R I h
  refine thn (hl pins s σ H _ I h) λ v s1 ⟨x,H1,I1,r1,q1⟩=>?_
  obtain ⟨a,e,⟨xs,hq⟩,q⟩:=q1
  subst e
  cases r1
  obtain ⟨its,rv,p,hz⟩:=I1.list hq
  refine wpAny_pyIter_list p.isList ?_
  refine ⟨s1.heap.objs.size,[s1.heap.objs.size],_,_,H1,rfl,I1.kept (t':=s1.toks) λ b o e=>Heap.get?_push_of_some _ e,turn_list a _,⟨_,Heap.get?_push_size _ rfl,rfl,rfl⟩,λ b hb=>?_,q⟩
  have e:b=s1.heap.objs.size:=by simpa using hb
  subst e
  exact I1.fpOk (Nat.le_refl _) (I1.hok.fresh (Nat.le_refl _))
theorem pi_tup {l:Expr} {tl:TE} (hl:PE X l tl):PI X tg l (iTup X.K tl):=by
  intro pins s σ H R I h
  refine thn (hl pins s σ H _ I h) λ v s1 ⟨x,H1,I1,r1,q1⟩=>?_
  obtain ⟨a,e,⟨xs,hq⟩,q⟩:=q1
  subst e
  cases r1
  obtain ⟨its,rv,p,hz⟩:=I1.tuple hq
  refine wpAny_pyIter_tuple (show s1.heap.IsTuple a its.toArray from p) ?_
  refine ⟨s1.heap.objs.size,[s1.heap.objs.size],_,_,H1,rfl,I1.kept (t':=s1.toks) λ b o e=>Heap.get?_push_of_some _ e,turn_tuple a _,⟨_,Heap.get?_push_size _ rfl,rfl,rfl⟩,λ b hb=>?_,q⟩
  have e:b=s1.heap.objs.size:=by simpa using hb
  subst e
  exact I1.fpOk (Nat.le_refl _) (I1.hok.fresh (Nat.le_refl _))
theorem range_it {pins:List (Addr×Obj)} {σ:St} {H:Hp} {s:Shared} {R:It->Hp->Prop} {E:Value->Shared->Prop} {lo hi:Int} {t u v:Tok} {tk:Nat} (I:Inv X pins σ H s) (h1:-(2 ^ 62)<=lo) (h2:lo < 2 ^ 62) (h3:-(2 ^ 62)<=hi) (h4:hi < 2 ^ 62)
    (q:R (Itr lo (hi - lo).toNat) H):wpAny (model X.prog X.w) X.A (pyIter (.ref s.heap.objs.size)) (PIE X pins σ tg R) E { s with heap:=s.heap.push { cls:=.type "range",data:=.fields #[.int lo t,.int hi u,.int 1 v] },toks:=tk }:=by
  refine wpAny_pyIter_range (IsRange.new ..) (small_one h1 h2 h3 h4) ?_
  have I1:Inv X pins σ H { s with heap:=s.heap.push { cls:=.type "range",data:=.fields #[.int lo t,.int hi u,.int 1 v] },toks:=tk }:=I.kept λ b o e=>Heap.get?_push_of_some _ e
  refine ⟨(s.heap.push { cls:=.type "range",data:=.fields #[.int lo t,.int hi u,.int 1 v] }).objs.size,[(s.heap.push { cls:=.type "range",data:=.fields #[.int lo t,.int hi u,.int 1 v] }).objs.size],_,_,H,rfl,
    I1.kept (t':=tk) λ b o e=>Heap.get?_push_of_some _ e,turn_range _ lo (hi - lo).toNat,?_,λ b hb=>?_,q⟩
  · have e1:lo + ((0:Nat):Int) * 1=lo:=by simp
    have e2:(((hi - lo).toNat:Nat):Int) - ((0:Nat):Int)=Builtin.Range.rangeSize lo hi 1:=by rw [rangeSize_one]; split <;> omega
    show IsRangeIter _ _ (lo + ((0:Nat):Int) * 1) ((((hi - lo).toNat:Nat):Int) - ((0:Nat):Int)) 1
    rw [e1,e2]
    exact Heap.get?_push_size _ rfl
  · have e:b=(s.heap.push { cls:=.type "range",data:=.fields #[.int lo t,.int hi u,.int 1 v] }).objs.size:=by simpa using hb
    subst e
    exact I1.fpOk (Nat.le_refl _) (I1.hok.fresh (Nat.le_refl _))
def iRng1 (ta:TA):TI:=λ σ H R=>ta σ H λ vs H1=>∃ j:Int,vs=[.int j]/\-(2 ^ 62)<=j/\j < 2 ^ 62/\R (Itr 0 j.toNat) H1
theorem pi_range1 {a:Expr} {ta:TA} {p pos:Pos} (hg:Gl X "range") (hm:X.mg "range"=none) (ha:PA X [a] ta) (hs:starEach [a] X.env=[(false,eval a X.env)]:=by rfl):PI X tg (.Call (.Name "range" p) [a] [] pos) (iRng1 ta):=by
  intro pins s σ H R I h
  refine Call_ (ld_blt I hg hm boot_range (PyProof.Rows.callWith_type1 (thn (ha pos pins s σ H _ I h) λ us s1 ⟨vs,H1,I1,r1,q1⟩=>?_) hs rfl))
  obtain ⟨j,e,q1,q2,q⟩:=q1
  subst e
  cases r1 with
  | cons r rr =>
    cases rr
    obtain ⟨t,rfl⟩:=r
    exact call_range_1 (range_it I1 (by omega) (by omega) q1 q2 (by simpa using q))
def tFor (wi:TI) (g:TG) (tb:TS):TS:=λ D σ H=>wi σ H λ J H1=>∃ W:Nat->Nat->St->Hp->Prop,(∃ m,W 0 m σ H1)/\∀ i m σ H,W i m σ H ->
  (J.stop i H/\D.nx σ H)∨(J.go i H/\∃ N:St->Hp->Prop,(∀ σ' H',N σ' H'->∃ m',m' < m/\W (i + 1) m' σ' H')/\∀ x H',J.yld i H x H'->g x σ H' λ σ2 H2=>tb { D with nx:=N,ct:=N,bk:=D.nx } σ2 H2)
def pinsAt (fp:List Addr) (h:Heap):List (Addr×Obj):=fp.filterMap λ b=>(h.get? b).map λ o=>(b,o)
theorem mem_pinsAt {fp:List Addr} {h:Heap} {b:Addr} {o:Obj} (hb:b∈fp) (e:h.get? b=some o):(b,o)∈pinsAt fp h:=List.mem_filterMap.mpr ⟨b,hb,by rw [e]; rfl⟩
theorem of_pinsAt {fp:List Addr} {h:Heap} {p:Addr×Obj} (hp:p∈pinsAt fp h):p.1∈fp/\h.get? p.1=some p.2:=by
  obtain ⟨b,hb,e⟩:=List.mem_filterMap.mp hp
  cases q:h.get? b with
  | none=>rw [q] at e; cases e
  | some o =>
    rw [q] at e
    have e':(b,o)=p:=Option.some.inj e
    subst e'
    exact ⟨hb,q⟩
theorem Inv.pinned {pins:List (Addr×Obj)} {σ:St} {H:Hp} {s:Shared} {fp:List Addr} (I:Inv X pins σ H s) (hf:∀ b∈fp,FpOk X pins H b) (ho:∀ b∈fp,∃ o,s.heap.get? b=some o/\∀ v,o.data≠.cell v):Inv X (pins++pinsAt fp s.heap) σ H s :=
  I.pins_of λ p hp=>(List.mem_append.mp hp).elim (λ z=>I.pin p (List.mem_append_right _ z)) λ z=>by
    obtain ⟨hb,e⟩:=of_pinsAt z
    obtain ⟨f0,f1,f2,_⟩:=hf p.1 hb
    obtain ⟨o,e',d⟩:=ho p.1 hb
    rw [e] at e'; cases e'
    exact ⟨e,f0,f1,f2,d⟩
theorem Inv.unpinned {pins pl:List (Addr×Obj)} {σ:St} {H:Hp} {s:Shared} (I:Inv X (pins++pl) σ H s):Inv X pins σ H s:=I.pins_of λ p hp=>I.pin p (List.mem_append_right _ (List.mem_append_left _ hp))
theorem ps_for {iter:Expr} {body:List Stmt} {wi:TI} {g:TG} {tb:TS} {pos:Pos} (hp:PassesOwn (model X.prog X.w) X.A X.env X.xe) (hc:X.calm=true) (hi:PI X tg iter wi) (hg:PG X tg g) (hb:PSs X body tb)
    (hs:∀ x,foldedSetIterable iter X.env x=pure x:=by intro _; rfl):PS X (.For tg iter body [] pos) (tFor wi g tb):=by
  intro pins s σ H D I h
  refine wpAny_For (thn (hi pins s σ H _ I h) λ v s1 h1=>thn h1 λ itv s2 h2=>?_) hs
  obtain ⟨it,fp,tn,J,H2,e,I2,T,st2,f2,W,⟨m0,w0⟩,turn⟩:=h2
  subst e
  -- what stays true of the iterator's objects through the loop
  have stat:∀ {H':Hp},(∀ b∈fp,H' b=none)->∀ b∈fp,FpOk X pins H' b:=λ hn b hb=>⟨hn b hb,(f2 b hb).2⟩
  refine codeAny_forLoop_any (λ n s'=>∃ i σ' H',Inv X pins σ' H' s'/\tn i s'.heap/\(∀ b∈fp,H' b=none)/\W i n σ' H') ?_ m0 ⟨0,σ,H2,I2,st2,λ b hb=>(f2 b hb).1,w0⟩
  rintro n s3 ⟨i,σ3,H3,I3,st3,fr3,w3⟩
  rcases turn i n σ3 H3 w3 with ⟨stop,qn⟩ | ⟨go,N,hN,step⟩
  · refine wpAny_passesOwn hp (thn (T.done X rfl rfl rfl hc i pins s3 σ3 H3 X.xe I3 (stat fr3) st3 stop) λ r s4 ⟨hr,I4⟩=>?_)
    subst hr
    exact wpAny_execs_nil ⟨σ3,H3,I4,qn⟩
  · refine wpAny_passesOwn hp (thn (T.item X rfl rfl rfl hc i pins s3 σ3 H3 X.xe I3 (stat fr3) st3 go) λ r s4 ⟨u,hr,h4⟩=>?_)
    subst hr
    refine wpAny_passesOwn hp (thn h4 λ _ s5 ⟨x,H5,I5,r5,y5,st5,fr5⟩=>?_)
    have I5':=I5.pinned (stat fr5) (T.obj _ _ st5)
    refine wpAny_passesOwn hp (thn (hg _ s5 σ3 H5 x u _ I5' r5 (step x H5 y5)) λ _ s6 ⟨σ6,H6,I6,q6⟩=>?_)
    refine wpAny_passesOwn hp (thn (hb _ s6 σ6 H6 _ I6 q6) λ f s7 q7=>?_)
    have again:∀ {σ7:St} {H7:Hp},Inv X (pins++pinsAt fp s5.heap) σ7 H7 s7->N σ7 H7->∃ m,m < n/\∃ i σ' H',Inv X pins σ' H' s7/\tn i s7.heap/\(∀ b∈fp,H' b=none)/\W i m σ' H':=λ {σ7 H7} I7 n7=>by
      obtain ⟨m',hm,w7⟩:=hN σ7 H7 n7
      refine ⟨m',hm,i + 1,σ7,H7,I7.unpinned,T.keep _ _ _ st5 λ b hb o e=>(I7.pin (b,o) (List.mem_append_right _ (List.mem_append_right _ (mem_pinsAt hb e)))).1,λ b hb=>?_,w7⟩
      obtain ⟨o,e,d⟩:=T.obj _ _ st5 b hb
      exact (I7.pin (b,o) (List.mem_append_right _ (List.mem_append_right _ (mem_pinsAt hb e)))).2.1
    cases f with
    | next=>obtain ⟨σ7,H7,I7,n7⟩:=q7; exact again I7 n7
    | cont=>obtain ⟨σ7,H7,I7,n7⟩:=q7; exact again I7 n7
    | brk=>obtain ⟨σ7,H7,I7,q7⟩:=q7; exact ⟨σ7,H7,I7.unpinned,q7⟩
    | ret v=>obtain ⟨x7,σ7,H7,I7,r7,q7⟩:=q7; exact ⟨x7,σ7,H7,I7.unpinned,r7,q7⟩
end
end L2
namespace L2
open PySem PySem.Spec PyProof.Rows
abbrev R2:=V->V->Hp->VK->Prop
def OpR (X:Cx) (f:Value->Value->Sem Value) (r:R2):Prop :=
  ∀ (pins:List (Addr×Obj)) (s:Shared) (σ:St) (H:Hp) (x y:V) (v u:Value) (Q:VK),Inv X pins σ H s->RelV x v->RelV y u->r x y H Q ->
    wpAny (model X.prog X.w) X.A (f v u) (EP X pins σ Q) X.xe s
def UnR (X:Cx) (f:Value->Sem Value) (r:V->Hp->VK->Prop):Prop :=
  ∀ (pins:List (Addr×Obj)) (s:Shared) (σ:St) (H:Hp) (x:V) (v:Value) (Q:VK),Inv X pins σ H s->RelV x v->r x H Q ->
    wpAny (model X.prog X.w) X.A (f v) (EP X pins σ Q) X.xe s
def CallR (X:Cx) (f:Value) (r:List V->Hp->VK->Prop):Prop :=
  ∀ (pins:List (Addr×Obj)) (s:Shared) (σ:St) (H:Hp) (xs:List V) (us:List Value) (Q:VK),Inv X pins σ H s->Vals xs us->r xs H Q ->
    wpAny (model X.prog X.w) X.A (call f us) (EP X pins σ Q) X.xe s
def TruR (X:Cx) (r:V->Hp->(Bool->Hp->Prop)->Prop):Prop :=
  ∀ (pins:List (Addr×Obj)) (s:Shared) (σ:St) (H:Hp) (x:V) (v:Value) (Q:Bool->Hp->Prop),Inv X pins σ H s->RelV x v->r x H Q ->
    wpAny (model X.prog X.w) X.A (truthy v) (TP X pins σ Q) X.xe s
def tOp (r:R2) (ta tb:TE):TE:=λ σ H Q=>ta σ H λ x H1=>tb σ H1 λ y H2=>r x y H2 Q
def tUn (r:V->Hp->VK->Prop) (ta:TE):TE:=λ σ H Q=>ta σ H λ x H1=>r x H1 Q
def rI (C:Int->Int->Prop) (g:Int->Int->V):R2:=λ x y H Q=>∃ i j,x=.int i/\y=.int j/\C i j/\Q (g i j) H
def rI0 (g:Int->Int->V):R2:=λ x y H Q=>∃ i j,x=.int i/\y=.int j/\Q (g i j) H
def rU (g:Int->V):V->Hp->VK->Prop:=λ x H Q=>∃ i,x=.int i/\Q (g i) H
section
variable {X:Cx} {a b c:Expr} {ta tb tc:TE} {pos:Pos}
theorem binT (ha:PE X a ta) (hb:PE X b tb) {pins:List (Addr×Obj)} {s:Shared} {σ:St} {H:Hp} {R:V->V->Hp->Prop} (I:Inv X pins σ H s)
    (h:ta σ H λ x H1=>tb σ H1 λ y H2=>R x y H2) {Q:Value->Shared->Prop} {f:Value->Value->Sem Value}
    (hf:∀ v u s2 x y H2,Inv X pins σ H2 s2->RelV x v->RelV y u->R x y H2->wpAny (model X.prog X.w) X.A (f v u) Q X.xe s2) :
    wpAny (model X.prog X.w) X.A (eval a X.env) (λ v s₁=>wpAny (model X.prog X.w) X.A (eval b X.env) (λ u s₂=>wpAny (model X.prog X.w) X.A (f v u) Q X.xe s₂) X.xe s₁) X.xe s:=by
  refine thn (ha pins s σ H _ I h) λ v s1 ⟨x,H1,I1,r1,q1⟩=>?_
  refine thn (hb pins s1 σ H1 _ I1 q1) λ u s2 ⟨y,H2,I2,r2,q2⟩=>?_
  exact hf v u s2 x y H2 I2 r1 r2 q2
theorem pe_op {op:Operator} {r:R2} (ho:OpR X (binaryOp op) r) (ha:PE X a ta) (hb:PE X b tb):PE X (.BinOp a op b pos) (tOp r ta tb):=by
  intro pins s σ H Q I h
  exact wpAny_BinOp (binT ha hb I h λ v u s2 x y H2 I2 rx ry q=>ho pins s2 σ H2 x y v u Q I2 rx ry q)
theorem pe_un {op:UnaryOp} {r:V->Hp->VK->Prop} (ho:UnR X (unaryOp op) r) (ha:PE X a ta):PE X (.UnaryOp op a pos) (tUn r ta):=by
  intro pins s σ H Q I h
  exact UnaryOp_ (thn (ha pins s σ H _ I h) λ v s1 ⟨x,H1,I1,r1,q1⟩=>ho pins s1 σ H1 x v Q I1 r1 q1)
theorem opI {f:Value->Value->Sem Value} {C:Int->Int->Prop} {g:Int->Int->Int}
    (rule:∀ (i j:Int) (t u:Tok) (s:Shared) (Q:Value->Shared->Prop) (E:Value->Shared->Prop),C i j->Q (.int (g i j) s.toks) { s with toks:=s.toks + 1 }->wpAny (model X.prog X.w) X.A (f (.int i t) (.int j u)) Q E s) :
    OpR X f (rI C λ i j=>.int (g i j)):=by
  intro pins s σ H x y v u Q I rx ry h
  obtain ⟨i,j,rfl,rfl,hc,q⟩:=h
  obtain ⟨t,rfl⟩:=rx
  obtain ⟨t',rfl⟩:=ry
  exact rule i j t t' s _ _ hc ⟨.int (g i j),H,I.tok _,⟨_,rfl⟩,q⟩
theorem opI0 {f:Value->Value->Sem Value} {g:Int->Int->Int}
    (rule:∀ (i j:Int) (t u:Tok) (s:Shared) (Q:Value->Shared->Prop) (E:Value->Shared->Prop),Q (.int (g i j) s.toks) { s with toks:=s.toks + 1 }->wpAny (model X.prog X.w) X.A (f (.int i t) (.int j u)) Q E s) :
    OpR X f (rI0 λ i j=>.int (g i j)):=by
  intro pins s σ H x y v u Q I rx ry h
  obtain ⟨i,j,rfl,rfl,q⟩:=h
  obtain ⟨t,rfl⟩:=rx
  obtain ⟨t',rfl⟩:=ry
  exact rule i j t t' s _ _ ⟨.int (g i j),H,I.tok _,⟨_,rfl⟩,q⟩
theorem opB0 {f:Value->Value->Sem Value} {g:Int->Int->Bool}
    (rule:∀ (i j:Int) (t u:Tok) (s:Shared) (Q:Value->Shared->Prop) (E:Value->Shared->Prop),Q (.bool (g i j)) s->wpAny (model X.prog X.w) X.A (f (.int i t) (.int j u)) Q E s) :
    OpR X f (rI0 λ i j=>.bl (g i j)):=by
  intro pins s σ H x y v u Q I rx ry h
  obtain ⟨i,j,rfl,rfl,q⟩:=h
  obtain ⟨t,rfl⟩:=rx
  obtain ⟨t',rfl⟩:=ry
  exact rule i j t t' s _ _ ⟨.bl (g i j),H,I,rfl,q⟩
def CMul (i j:Int):Prop:=(-(2 ^ 64) < i/\i < 2 ^ 64)∨(-(2 ^ 64) < j/\j < 2 ^ 64)
theorem CMul.ok {i j:Int} (h:CMul i j):IntMulOk i j:=by
  rcases h with ⟨h1,h2⟩ | ⟨h1,h2⟩
  · exact .of_left (intBits_le_64 h1 h2)
  · exact .of_right (intBits_le_64 h1 h2)
theorem op_add:OpR X (binaryOp .Add) (rI0 λ i j=>.int (i + j)):=opI0 λ _ _ _ _ _ _ _ q=>add_int q
theorem op_sub:OpR X (binaryOp .Sub) (rI0 λ i j=>.int (i - j)):=opI0 λ _ _ _ _ _ _ _ q=>sub_int q
theorem op_mul:OpR X (binaryOp .Mult) (rI CMul λ i j=>.int (i * j)):=opI λ _ _ _ _ _ _ _ hc q=>mul_int q hc.ok
theorem op_mod:OpR X (binaryOp .Mod) (rI (λ _ j=>0 < j) λ i j=>.int (i % j)):=opI λ i j _ _ _ _ _ hc q=>by
  have h1:(0:Int) < j:=hc
  exact mod_int' (by omega) (by rw [Int.fmod_eq_emod_of_nonneg i (by omega)]; exact q)
theorem unI {f:Value->Sem Value} {g:Int->Int}
    (rule:∀ (i:Int) (t:Tok) (s:Shared) (Q:Value->Shared->Prop) (E:Value->Shared->Prop),Q (.int (g i) s.toks) { s with toks:=s.toks + 1 }->wpAny (model X.prog X.w) X.A (f (.int i t)) Q E s) :
    UnR X f (rU λ i=>.int (g i)):=by
  intro pins s σ H x v Q I rx h
  obtain ⟨i,rfl,q⟩:=h
  obtain ⟨t,rfl⟩:=rx
  exact rule i t s _ _ ⟨.int (g i),H,I.tok _,⟨_,rfl⟩,q⟩
theorem un_neg:UnR X (unaryOp .USub) (rU λ i=>.int (-i)):=unI λ _ _ _ _ _ q=>neg_int q
end
section
variable {X:Cx} {a b c:Expr} {ta tb tc:TE} {pos:Pos}
theorem fin_bl {pins:List (Addr×Obj)} {σ:St} {H:Hp} {s:Shared} {Q:VK} {k k':Bool} (I:Inv X pins σ H s) (q:Q (.bl k) H) (e:k=k'):EP X pins σ Q (.bool k') s:=by
  subst e
  exact ⟨.bl k,H,I,rfl,q⟩
theorem op_lt:OpR X (compareOp .Lt) (rI0 λ i j=>.bl (decide (i < j))):=opB0 λ _ _ _ _ _ _ _ q=>lt_int q
theorem op_le:OpR X (compareOp .LtE) (rI0 λ i j=>.bl (decide (i<=j))):=opB0 λ _ _ _ _ _ _ _ q=>le_int q
theorem op_lt_str:OpR X (compareOp .Lt) (λ x y H Q=>∃ i j,x=.str i/\y=.str j/\Q (.bl (decide (i.cps.toList < j.cps.toList))) H):=by
  intro pins s σ H x y v u Q I rx ry h
  obtain ⟨i,j,rfl,rfl,q⟩:=h
  obtain ⟨t,rfl⟩:=rx
  obtain ⟨t',rfl⟩:=ry
  exact lt_str (fin_bl I q rfl)
theorem op_in_str:OpR X (compareOp .In) (λ x y H Q=>∃ i j,x=.str i/\y=.str j/\Q (.bl (!(Builtin.Str.occurrences j i 0 j.length 1).isEmpty)) H):=by
  intro pins s σ H x y v u Q I rx ry h
  obtain ⟨i,j,rfl,rfl,q⟩:=h
  obtain ⟨t,rfl⟩:=rx
  obtain ⟨t',rfl⟩:=ry
  exact in_str (fin_bl I q rfl)
theorem OpR.or {f:Value->Value->Sem Value} {r r':R2} (h:OpR X f r) (h':OpR X f r'):OpR X f (λ x y H Q=>r x y H Q∨r' x y H Q):=by
  intro pins s σ H x y v u Q I rx ry q
  rcases q with q | q
  · exact h pins s σ H x y v u Q I rx ry q
  · exact h' pins s σ H x y v u Q I rx ry q
theorem nomark (b:Expr) {op:CmpOp} (h:op≠.In:=by decide) (h2:op≠.NotIn:=by decide):behindInMarks op b=false:=by
  have e1:(op == CmpOp.In)=false:=by cases op <;> first | rfl | exact absurd rfl h
  have e2:(op == CmpOp.NotIn)=false:=by cases op <;> first | rfl | exact absurd rfl h2
  cases b <;> simp [behindInMarks,e1,e2]
theorem pe_cmpR {op:CmpOp} {r:R2} (ho:OpR X (compareOp op) r) (ha:PE X a ta) (hb:PE X b tb) (hm:behindInMarks op b=false):PE X (.Compare a [op] [b] pos) (tOp r ta tb):=by
  intro pins s σ H Q I h
  exact wpAny_Compare1 (binT ha hb I h λ v u s2 x y H2 I2 rx ry q=>ho pins s2 σ H2 x y v u Q I2 rx ry q) hm
def tTest (t:TE):TT:=λ σ H Q=>t σ H λ x H'=>∃ k,x=.bl k/\Q k H'
theorem pt_cmpR {op:CmpOp} {r:R2} (ho:OpR X (compareOp op) r) (ha:PE X a ta) (hb:PE X b tb) (hm:behindInMarks op b=false):PT X (.Compare a [op] [b] pos) (tTest (tOp r ta tb)):=by
  intro pins s σ H Q I h
  refine wpAny_isTrue_Compare1 (thn (ha pins s σ H _ I h) λ v s1 ⟨x,H1,I1,r1,q1⟩=>thn (hb pins s1 σ H1 _ I1 q1) λ u s2 ⟨y,H2,I2,r2,q2⟩ =>
    thn (ho pins s2 σ H2 x y v u _ I2 r1 r2 q2) λ c s3 ⟨z,H3,I3,r3,k,e,q3⟩=>?_) hm
  subst e
  cases r3
  exact wpAny_truthy_bool ⟨H3,I3,q3⟩
def tChain (r r':R2) (ta tb tc:TE):TE:=λ σ H Q=>ta σ H λ x H1=>tb σ H1 λ y H2=>r x y H2 λ z H3=>∃ k,z=.bl k /\
  (if k=true then tc σ H3 λ w' H4=>r' y w' H4 Q else Q (.bl false) H3)
theorem pe_chain {op op':CmpOp} {r r':R2} (ho:OpR X (compareOp op) r) (ho':OpR X (compareOp op') r') (ha:PE X a ta) (hb:PE X b tb) (hc:PE X c tc)
    (hm:lastMarks [op,op'] [b,c]=false:=by with_unfolding_all rfl):PE X (.Compare a [op,op'] [b,c] pos) (tChain r r' ta tb tc):=by
  intro pins s σ H Q I h
  refine Compare_chain (thn (ha pins s σ H _ I h) λ v s1 ⟨x,H1,I1,r1,q1⟩=>chain_link (thn (hb pins s1 σ H1 _ I1 q1) λ u s2 ⟨y,H2,I2,r2,q2⟩ =>
    thn (ho pins s2 σ H2 x y v u _ I2 r1 r2 q2) λ d s3 ⟨z,H3,I3,r3,k,e,q3⟩=>?_)) hm
  subst e
  cases r3
  refine wpAny_truthy_bool ?_
  cases k with
  | false=>exact ite_ff ⟨.bl false,H3,I3,rfl,q3⟩
  | true=>exact ite_tt (chain_last (thn (hc pins s3 σ H3 _ I3 q3) λ w' s4 ⟨z',H4,I4,r4,q4⟩=>ho' pins s4 σ H4 y z' u w' Q I4 r2 r4 q4))
def TruV (K:PySem.W.Frag) (x:V) (H:Hp) (k:Bool):Prop :=
  match x with
  | .non=>k=false
  | .bl b=>k=b
  | .int i=>k=(i != 0)
  | .str y=>y.length<=sizeLine/\k=((y.length:Int) != 0)
  | .byt y=>y.size<=sizeLine/\k=((y.size:Int) != 0)
  | .ref p=>(∃ xs,SqL K H p xs/\k=!xs.isEmpty)∨(∃ xs,SqT K H p xs/\k=!xs.isEmpty)∨∃ kvs,H p=some (.dK kvs)/\k=!kvs.isEmpty
  | _=>False
theorem isEmpty_kv {κ:Type} {kvs:List (κ×V)} {vs:List (κ×Value)} (r:KV kvs vs):(!vs.isEmpty)=!kvs.isEmpty:=by
  cases r <;> rfl
theorem isEmpty_of {xs:List V} {its:List Value} (r:Vals xs its):(!its.toArray.isEmpty)=!xs.isEmpty:=by
  cases r <;> simp
theorem line63:(sizeLine:Nat) < 2 ^ 63:=by rw [sizeLine_eq]; decide
theorem tru_ok:TruR X (λ x H Q=>∃ k,TruV X.K x H k/\Q k H):=by
  intro pins s σ H x v Q I rx h
  obtain ⟨k,e,q⟩:=h
  have hl:=line63
  have hs:sizeLine=16777216:=sizeLine_eq
  cases x with
  | non =>
    cases rx
    have e':k=false:=e
    subst e'
    exact truthy_none ⟨H,I,q⟩
  | bl b =>
    cases rx
    have e':k=b:=e
    subst e'
    exact wpAny_truthy_bool ⟨H,I,q⟩
  | int i =>
    obtain ⟨t,rfl⟩:=rx
    have e':k=(i != 0):=e
    subst e'
    exact PySem.P.truthy_int ⟨H,I,q⟩
  | str y =>
    obtain ⟨t,rfl⟩:=rx
    obtain ⟨hy,e'⟩:y.length<=sizeLine/\k=((y.length:Int) != 0):=e
    subst e'
    exact PySem.P.truthy_str (by omega) ⟨H,I.tok _,q⟩
  | byt y =>
    obtain ⟨t,rfl⟩:=rx
    obtain ⟨hy,e'⟩:y.size<=sizeLine/\k=((y.size:Int) != 0):=e
    subst e'
    exact PySem.W.truthy_bytes (by omega) ⟨H,I.tok _,q⟩
  | ref p =>
    cases rx
    have e':(∃ xs,SqL X.K H p xs/\k=!xs.isEmpty)∨(∃ xs,SqT X.K H p xs/\k=!xs.isEmpty)∨∃ kvs,H p=some (.dK kvs)/\k=!kvs.isEmpty:=e
    rcases e' with ⟨xs,hx,e'⟩ | ⟨xs,hx,e'⟩ | ⟨kvs,hx,e'⟩
    · subst e'
      obtain ⟨its,r,pl,hz⟩:=I.list hx
      have hlen:=r.length
      exact wpAny_truthy_list pl.isList (by simp only [List.size_toArray]; omega) ⟨H,I.tok _,by rw [isEmpty_of r]; exact q⟩
    · subst e'
      obtain ⟨its,r,pl,hz⟩:=I.tuple hx
      have hlen:=r.length
      exact truthy_tuple pl (by simp only [List.size_toArray]; omega) ⟨H,I.tok _,by rw [isEmpty_of r]; exact q⟩
    · subst e'
      obtain ⟨hz,hS,vs,r,m⟩:kvs.length<=sizeLine/\(p == sysModules)=false/\∃ vs,KV kvs vs/\s.heap.DictOf (mixKind X.prog X.w) p vs:=I.hok p _ hx
      have hlen:kvs.length=vs.length:=Paired.length r
      exact wpAny_truthy_dict hS m (by omega) ⟨H,I.tok _,by rw [isEmpty_kv r]; exact q⟩
  | _=>exact (show False from e).elim
theorem pt_truth (ha:PE X a ta) (he:∀ whole,isTrue a X.env whole=(do let v <- whole; standAt a.pos; holding [v] (truthy v))) :
    PT X a (λ σ H Q=>ta σ H λ x H'=>∃ k,TruV X.K x H' k/\Q k H'):=by
  intro pins s σ H Q I h
  exact isTrue_plain (thn (ha pins s σ H _ I h) λ v s1 ⟨x,H1,I1,r1,q1⟩=>tru_ok pins s1 σ H1 x v Q I1 r1 q1) (he _)
theorem op_add_str:OpR X (binaryOp .Add) (λ x y H Q=>∃ i j,x=.str i/\y=.str j/\i.length + j.length<=sizeLine/\Q (.str (i++j)) H):=by
  intro pins s σ H x y v u Q I rx ry h
  obtain ⟨i,j,rfl,rfl,hz,q⟩:=h
  obtain ⟨t,rfl⟩:=rx
  obtain ⟨t',rfl⟩:=ry
  exact add_str (λ t' tk=>⟨.str (i++j),H,I.tok _,⟨_,rfl⟩,q⟩) hz
theorem vals1 {x:V} {us:List Value} (r:Vals [x] us):∃ u,us=[u]/\RelV x u:=by
  cases r with
  | cons r1 r2=>cases r2; exact ⟨_,rfl,r1⟩
theorem vals2 {x y:V} {us:List Value} (r:Vals [x,y] us):∃ u w',us=[u,w']/\RelV x u/\RelV y w':=by
  cases r with
  | cons r1 r2 =>
    cases r2 with
    | cons r3 r4=>cases r4; exact ⟨_,_,rfl,r1,r3⟩
def LenV (K:PySem.W.Frag) (x:V) (H:Hp) (n:Nat):Prop :=
  match x with
  | .str y=>y.length<=sizeLine/\n=y.length
  | .byt y=>y.size<=sizeLine/\n=y.size
  | .ref p=>(∃ xs,SqL K H p xs/\n=xs.length)∨∃ xs,SqT K H p xs/\n=xs.length
  | _=>False
theorem call_len:CallR X (.builtin "len") (λ xs H Q=>∃ x n,xs=[x]/\LenV X.K x H n/\Q (.int n) H):=by
  intro pins s σ H xs us Q I r h
  obtain ⟨x,n,rfl,e,q⟩:=h
  obtain ⟨u,rfl,rx⟩:=vals1 r
  have hl:=line63
  have hs:sizeLine=16777216:=sizeLine_eq
  cases x with
  | str y =>
    obtain ⟨t,rfl⟩:=rx
    obtain ⟨hy,e'⟩:y.length<=sizeLine/\n=y.length:=e
    subst e'
    exact len_str (by omega) ⟨.int _,H,I.tok _,⟨_,rfl⟩,q⟩
  | byt y =>
    obtain ⟨t,rfl⟩:=rx
    obtain ⟨hy,e'⟩:y.size<=sizeLine/\n=y.size:=e
    subst e'
    exact PySem.W.len_bytes (by omega) ⟨.int _,H,I.tok _,⟨_,rfl⟩,q⟩
  | ref p =>
    cases rx
    have e':(∃ xs,SqL X.K H p xs/\n=xs.length)∨∃ xs,SqT X.K H p xs/\n=xs.length:=e
    rcases e' with ⟨xs,hx,e'⟩ | ⟨xs,hx,e'⟩
    · subst e'
      obtain ⟨its,r',pl,hz⟩:=I.list hx
      have hlen:=r'.length
      exact Calls.call_len_list pl.isList (by simp only [List.size_toArray]; omega) ⟨.int xs.length,H,I.tok _,⟨_,by simp only [List.size_toArray]; rw [hlen]⟩,q⟩
    · subst e'
      obtain ⟨its,r',pl,hz⟩:=I.tuple hx
      have hlen:=r'.length
      exact len_tuple pl (by simp only [List.size_toArray]; omega) ⟨.int xs.length,H,I.tok _,⟨_,by simp only [List.size_toArray]; rw [hlen]⟩,q⟩
  | _=>exact (show False from e).elim
end
end L2
namespace L2
open PySem PySem.Spec PyProof.Rows
section
variable {prog:Program} {w:World} {A:Around} {E:Value->Shared->Prop} {s:Shared} {K:PySem.W.Frag} {x dx C f:Addr} {mA:Str->Option Value} {name:Str} {v:Value}
end
section
variable {P:Program} {w:World} {H H':Hp} {h h':Heap} {a C dx:Addr} {fs fs':List (Str×V)}
end
section
variable {X:Cx} {pins:List (Addr×Obj)} {σ:St} {H:Hp} {s:Shared} {a C dx:Addr} {fs:List (Str×V)} {f:Str} {v:V} {A:Around} {E:Value->Shared->Prop}
end
section
variable {X:Cx} {o e value:Expr} {f:Str} {pos pos' tpos:Pos} {ta tv:TE}
end
section
variable {X:Cx} {pins:List (Addr×Obj)} {σ:St} {H:Hp} {s:Shared} {A:Around} {E:Value->Shared->Prop} {Q:Value->Shared->Prop} {c:Value} {b:Bool}
end
end L2
namespace L2
open PySem PySem.Spec PyProof.Rows
structure Room (k:Nat) (A:Around):Prop where
  hd:A.handled=none
  dp:A.depth + 3 * k + 5 < recursionLimit
  un:A.units + 16 * k + 200 < cLine
theorem Room.mono {j k:Nat} {A:Around} (r:Room k A) (h:j<=k):Room j A:=⟨r.hd,by have:=r.dp; omega,by have:=r.un; omega⟩
theorem Room.deeper {k:Nat} {A:Around} (r:Room (k + 1) A) (env:Env):Room k (A.deeper env) :=
  ⟨r.hd,by have:=r.dp; show A.depth + 1 + 3 * k + 5 < _; omega,by have:=r.un; show A.units + 3 + 16 * k + 200 < _; omega⟩
theorem Room.depth {k:Nat} {A:Around} (r:Room k A):A.depth < recursionLimit:=by have:=r.dp; omega
def tNil:TA:=λ _ H Q=>Q [] H
def tCons (ta:TE) (tr:TA):TA:=λ σ H Q=>ta σ H λ x H1=>tr σ H1 λ xs H2=>Q (x::xs) H2
section
variable {X:Cx} {e:Expr} {es:List Expr} {te:TE} {t:TA} {pos:Pos}
theorem pa_nil:PA X [] tNil:=λ _ _ _ _ H Q I h=>Calls.spliced_nil ⟨[],H,I,.nil,h⟩
theorem pa_cons (ha:PE X e te) (hr:PA X es t) (hs:starEach (e::es) X.env=(false,eval e X.env)::starEach es X.env:=by rfl):PA X (e::es) (tCons te t):=by
  intro pos pins s σ H Q I h
  rw [hs]
  show wpAny _ _ (spliced ((false,eval e X.env)::backTo pos (starEach es X.env))) _ _ s
  refine Calls.spliced_cons (thn (ha pins s σ H _ I h) λ u s1 ⟨x,H1,I1,r1,q1⟩=>?_)
  exact thn (hr pos pins s1 σ H1 _ I1 q1) λ us s2 ⟨xs,H2,I2,r2,q2⟩=>⟨x::xs,H2,I2,.cons r1 r2,q2⟩
def tTup (t:TA):TE:=λ σ H Q=>t σ H λ xs H1=>xs.length<=sizeLine/\∀ p,H1 p=none->Q (.ref p) (upd H1 p (.tup xs))
def tLst (t:TA):TE:=λ σ H Q=>t σ H λ xs H1=>xs.length<=sizeLine/\∀ p,H1 p=none->Q (.ref p) (upd H1 p (.lst xs))
theorem pe_tup {x1} (h:PA X es t):PE X (.Tuple es x1 pos) (tTup t):=by
  intro pins s σ H Q I hq
  refine wpAny_Tuple_spliced (thn (h pos pins s σ H _ I hq) λ us s1 ⟨xs,H1,I1,r,z,q⟩=>⟨by rw [<- r.length]; exact z,?_⟩)
  have hf:H1 s1.heap.objs.size=none:=I1.hok.fresh (Nat.le_refl _)
  refine ⟨.ref s1.heap.objs.size,upd H1 s1.heap.objs.size (.tup xs),I1.laid (t':=s1.toks) (λ b u e=>Heap.get?_push_of_some _ e) (Nat.le_refl _) ?_,rfl,q _ hf⟩
  exact ⟨z,us,r,⟨_,Heap.get?_push_size _ rfl,rfl,_,rfl⟩⟩
theorem pe_lst (h:PA X es t):PE X (.List es pos) (tLst t):=by
  intro pins s σ H Q I hq
  refine wpAny_List_spliced (thn (h pos pins s σ H _ I hq) λ us s1 ⟨xs,H1,I1,r,z,q⟩=>⟨by rw [<- r.length]; exact z,?_⟩)
  have hf:H1 s1.heap.objs.size=none:=I1.hok.fresh (Nat.le_refl _)
  refine ⟨.ref s1.heap.objs.size,upd H1 s1.heap.objs.size (.lst xs),I1.laid (t':=s1.toks) (λ b u e=>Heap.get?_push_of_some _ e) (Nat.le_refl _) ?_,rfl,q _ hf⟩
  exact ⟨z,us,0,r,Heap.get?_push_size _ rfl⟩
end
abbrev Sp:=List V->Hp->VK->XK->Prop
abbrev CXT:=List Env->Hp->Shared->XK->Value->Shared->Prop
structure Env0 (P:Program) (w:World) (K:PySem.W.Frag) (mg:Str->Option Value) (base:Heap) (A:Around) (outer:List Env) (s:Shared) (H:Hp):Prop where
  frames:A.frames=some outer
  mod:Mod K mg base
  bs:∀ b o,base.get? b=some o->s.heap.get? b=some o/\H b=none
  bsz:base.objs.size<=s.heap.objs.size
  funs:s.heap.FunFrames base outer
  frf:∀ b∈frs outer,H b=none
  hok:HOk P w H s.heap
  bare:AllBare s.gens
def CE (outer:List Env) (P:Program) (w:World) (H:Hp) (s:Shared) (Q:VK) (u:Value) (s':Shared):Prop :=
  ∃ v H',s'.os=s.os/\AllBare s'.gens/\Un (frs outer) [] H H' s.heap s'.heap/\HOk P w H' s'.heap/\RelV v u/\Q v H'
def CR (CX:CXT) (outer:List Env) (P:Program) (w:World) (H:Hp) (s:Shared) (Q:VK) (E:XK) (r:Result) (s':Shared):Prop :=
  match r with
  | .ok (.ret u)=>CE outer P w H s Q u s'
  | .ok _=>False
  | .error e=>CX outer H s E e s'
structure FnOk (P:Program) (w:World) (K:PySem.W.Frag) (mg:Str->Option Value) (base:Heap) (CX:CXT) (k:Nat) (f:Addr) (fd:FuncData) (ps:List Str) (sp:Sp):Prop where
  len:∀ vs H Q E,sp vs H Q E->vs.length=ps.length
  run:∀ (A:Around) (outer:List Env) (s:Shared) (H:Hp) (args:Args) (us:List Value) (vs:List V) (Q:VK) (E:XK),Room k A->Env0 P w K mg base A outer s H->BindsTo s fd args (ps.zip us)->Vals vs us->sp vs H Q E ->
    codeAny (model P w) A (.call (.ref f) args) (CR CX outer P w H s Q E) s
theorem FnOk.mono {P:Program} {w:World} {K:PySem.W.Frag} {mg:Str->Option Value} {base:Heap} {CX:CXT} {j k:Nat} {f:Addr} {fd:FuncData} {ps:List Str} {sp:Sp} (F:FnOk P w K mg base CX j f fd ps sp) (h:j<=k) :
    FnOk P w K mg base CX k f fd ps sp:=⟨F.len,λ A outer s H args us vs Q E hr=>F.run A outer s H args us vs Q E (hr.mono h)⟩
theorem FnOk.imp {P:Program} {w:World} {K:PySem.W.Frag} {mg:Str->Option Value} {base:Heap} {CX:CXT} {k:Nat} {f:Addr} {fd:FuncData} {ps:List Str} {sp sp':Sp} (F:FnOk P w K mg base CX k f fd ps sp)
    (h:∀ vs H Q E,sp' vs H Q E->sp vs H Q E):FnOk P w K mg base CX k f fd ps sp' :=
  ⟨λ vs H Q E q=>F.len vs H Q E (h _ _ _ _ q),λ A outer s H args us vs Q E hr he hb hv hs=>F.run A outer s H args us vs Q E hr he hb hv (h _ _ _ _ hs)⟩
section
variable {X:Cx} {pins:List (Addr×Obj)} {σ:St} {H:Hp} {s s':Shared}
theorem Inv.env0 (I:Inv X pins σ H s):Env0 X.prog X.w X.K X.mg X.base X.A X.stack s H :=
  ⟨I.ok.frames,I.ok.mod,I.bs,Nat.le_trans I.ok.bsz I.sz,I.stack,I.stkFree,I.hok,I.bare⟩
theorem Inv.after {Q:VK} {u:Value} (I:Inv X pins σ H s) (h:CE X.stack X.prog X.w H s Q u s'):EP X pins σ Q u s':=by
  obtain ⟨v,H',os,bare,un,hok,r,q⟩:=h
  obtain ⟨hh,g,d,t,os'⟩:=s'
  obtain rfl:os'=s.os:=os
  exact ⟨v,H',I.call (h':=hh) (g':=g) (d':=d) (t':=t) (ch:=[]) un hok bare (λ b z=>absurd z (by simp)),r,q⟩
end
def Binds (K:PySem.W.Frag) (fd:FuncData) (ps:List Str) (ds:List Value):Prop :=
  ∀ (s:Shared) (us:List Value),K.In s.heap->(us++ds).length=ps.length->BindsTo s fd ⟨us,[]⟩ (ps.zip (us++ds))
theorem Binds.all {K:PySem.W.Frag} {fd:FuncData} {ps:List Str} (h:∀ us:List Value,us.length=ps.length->bindArgs fd ⟨us,[]⟩=pure (ps.zip us)):Binds K fd ps []:=λ s us _ hl=>by
  rw [List.append_nil] at hl ⊢
  exact .of_eq (h us hl)
section
variable {X:Cx} {CX:CXT} {k:Nat} {f C:Addr} {fd:FuncData} {ps:List Str} {sp:Sp} {dvs:List V} {ds:List Value} {E:XK} {x m:Str} {p pos apos:Pos} {e o:Expr} {es:List Expr} {ta:TE} {t:TA}
end
section
variable {X:Cx} {CX:CXT} {k:Nat} {f C:Addr} {fd:FuncData} {ps ks:List Str} {sp:Sp} {E:XK} {x m:Str} {p pos apos kpos:Pos} {e o:Expr} {es:List Expr} {kws:List Keyword} {te ta:TE} {t tk:TA} {nm:Option Str}
variable {g:List Value->List Value->List Value} {gV:List V->List V->List V}
end
structure FnScope (N P:List Str) (sc:Scope):Prop where
  kind:sc.kind=.function
  co:sc.isCoroutine=false
  gen:sc.isGenerator=false
  nd:N.Nodup
  pre:N.take P.length=P
  par:∀ x∈P,sc.names.lookup x=some .local∨sc.names.lookup x=some .cell
  nofree:∀ y∈sc.names,y.2≠.free
theorem bindL_out {kindOf:Str->Option NameKind} {x:Str}:∀ {binds:List (Str×Value)} {m:Str->Option Value},(∀ v,(x,v)∉binds)->bindL kindOf binds m x=m x
  | [],_,_=>rfl
  | (n,v)::r,m,h=>by
    unfold bindL
    rw [bindL_out λ w hw=>h w (List.mem_cons_of_mem _ hw)]
    split
    · have:x≠n:=by rintro rfl; exact h v List.mem_cons_self
      simp [this]
    · rfl
theorem bindC_out {kindOf:Str->Option NameKind} {x:Str}:∀ {binds:List (Str×Value)} {m:Str->Option Value},(∀ v,(x,v)∉binds)->bindC kindOf binds m x=m x
  | [],_,_=>rfl
  | (n,v)::r,m,h=>by
    unfold bindC
    rw [bindC_out λ w hw=>h w (List.mem_cons_of_mem _ hw)]
    split
    · rfl
    · have:x≠n:=by rintro rfl; exact h v List.mem_cons_self
      simp [this]
theorem bindL_get {kindOf:Str->Option NameKind} {x:Str} {v:Value}:∀ {P:List Str} {vs:List Value} {i:Nat} {m:Str->Option Value},P.Nodup->P[i]?=some x->vs[i]?=some v->kindOf x=some .local ->
    bindL kindOf (P.zip vs) m x=some v
  | [],_,_,_,_,h,_,_=>by simp at h
  | _::_,[],_,_,_,_,h,_=>by simp at h
  | p::P,w::vs,0,m,nd,h1,h2,hk=>by
    simp at h1 h2; subst h1; subst h2
    show bindL kindOf ((p,w)::P.zip vs) m p=_
    unfold bindL
    rw [bindL_out λ v hv=>(List.nodup_cons.mp nd).1 (List.of_mem_zip hv).1,if_pos hk]
    simp
  | p::P,w::vs,i + 1,m,nd,h1,h2,hk=>by
    show bindL kindOf ((p,w)::P.zip vs) m x=_
    unfold bindL
    exact bindL_get (i:=i) (List.nodup_cons.mp nd).2 (by simpa using h1) (by simpa using h2) hk
theorem bindC_get {kindOf:Str->Option NameKind} {x:Str} {v:Value}:∀ {P:List Str} {vs:List Value} {i:Nat} {m:Str->Option Value},P.Nodup->P[i]?=some x->vs[i]?=some v->kindOf x≠some .local ->
    bindC kindOf (P.zip vs) m x=some v
  | [],_,_,_,_,h,_,_=>by simp at h
  | _::_,[],_,_,_,_,h,_=>by simp at h
  | p::P,w::vs,0,m,nd,h1,h2,hk=>by
    simp at h1 h2; subst h1; subst h2
    show bindC kindOf ((p,w)::P.zip vs) m p=_
    unfold bindC
    rw [bindC_out λ v hv=>(List.nodup_cons.mp nd).1 (List.of_mem_zip hv).1,if_neg hk]
    simp
  | p::P,w::vs,i + 1,m,nd,h1,h2,hk=>by
    show bindC kindOf ((p,w)::P.zip vs) m x=_
    unfold bindC
    exact bindC_get (i:=i) (List.nodup_cons.mp nd).2 (by simpa using h1) (by simpa using h2) hk
def start (N:List Str) (vs:List V):St:=vs.map some++List.replicate (N.length - vs.length) none
def cxOf (CX:CXT) (P:Program) (w:World) (K:PySem.W.Frag) (mg:Str->Option Value) (base:Heap) (N:List Str) (qual:Str) (scope:Scope) (f:Addr) (cd:Value) (A:Around) (outer:List Env) (s:Shared) (H:Hp) (E:XK):Cx where
  prog:=P
  w:=w
  K:=K
  mg:=mg
  base:=base
  A:=A.deeper (envOfC qual scope s.heap.objs.size f cd)
  N:=N
  s₀:=s
  H₀:=H
  env:=envOfC qual scope s.heap.objs.size f cd
  outer:=outer
  stack:=envOfC qual scope s.heap.objs.size f cd::outer
  ex:=[]
  calm:=true
  fn:=λ _=>true
  pn:=[]
  xe:=λ e s'=>wpAny (model P w) (A.deeper (envOfC qual scope s.heap.objs.size f cd)) (leaving (envOfC qual scope s.heap.objs.size f cd) e) (λ _ s''=>CX outer H s E e s'') (λ e' s''=>CX outer H s E e' s'') s'
theorem cell_has {sc:Scope} {n:Nat} {x:Str} (h:sc.names.lookup x=some .cell):∃ c,(cellsFrom n sc.names []).lookup x=some c:=by
  have q:=PySem.W.cellsFrom_some sc.names n [] (.inl h)
  exact Option.isSome_iff_exists.mp q
theorem inv_start {CX:CXT} {P:Program} {w:World} {K:PySem.W.Frag} {mg:Str->Option Value} {base:Heap} {N ps:List Str} {qual:Str} {scope:Scope} {f:Addr} {cd:Value} {A:Around} {outer:List Env} {s s1:Shared} {H:Hp} {E:XK} {us:List Value} {vs:List V}
    (S:FnScope N ps scope) (hd:A.handled=none) (e0:Env0 P w K mg base A outer s H) (hl:vs.length=ps.length) (r:Vals vs us)
    (x:InCallC s s.heap.objs.size (bindL (envOfC qual scope s.heap.objs.size f cd).kindOf (ps.zip us) λ _=>none) (cellsFrom (s.heap.objs.size + 1) scope.names []) (bindC (envOfC qual scope s.heap.objs.size f cd).kindOf (ps.zip us) λ _=>none) s1) :
    Inv (cxOf CX P w K mg base N qual scope f cd A outer s H E) [] (start N vs) H s1:=by
  have hpl:ps.length<=N.length:=by have:=congrArg List.length S.pre; rw [List.length_take] at this; omega
  obtain ⟨h1,tk,rfl,hk⟩:=x.done
  have noA:∀ b:Addr,b∉(cxOf CX P w K mg base N qual scope f cd A outer s H E).ex:=λ b z=>absurd (show b∈([]:List Addr) from z) (by simp)
  refine ⟨⟨e0.mod,S.kind,rfl,rfl,Nat.le_refl _,λ y z c h1 h2=>?_,λ y hy=>?_,λ y c _ h=>?_,λ _=>hd,Around.frames_deeper e0.frames,.inr ⟨rfl,rfl⟩,λ b z=>absurd z (noA b),e0.bs,e0.bsz,λ b _ _=>noA b,λ b z=>absurd z (noA b),e0.funs,e0.frf⟩,
    rfl,e0.bare,Un.kept hk,⟨_,x.toInCall.ns,λ i y v h1 h2 h3=>?_⟩,λ y c h=>⟨_,x.cell y c h⟩,e0.hok.fresh (Nat.le_refl _),λ y c h=>?_,λ p hp=>absurd (show p∈([]:List (Addr×Obj)) from hp) (by simp),e0.hok.kept hk,?_⟩
  · exact name_of_addr x.apart (PySem.mem_of_lookup h1) (PySem.mem_of_lookup h2)
  · have hy:scope.names.lookup y=some .cell∨scope.names.lookup y=some .free:=hy
    rcases hy with hy | hy
    · exact cell_has hy
    · exact absurd rfl (S.nofree _ (PySem.mem_of_lookup hy))
  · exact Nat.le_of_lt (x.above y c (PySem.mem_of_lookup h))
  · have hi:i < vs.length:=by
      unfold start at h2
      by_cases hi:i < vs.length
      · exact hi
      · rw [List.getElem?_append_right (by simpa using hi)] at h2
        rw [List.getElem?_replicate] at h2
        split at h2 <;> cases h2
    have ha:vs[i]?=some v:=by
      unfold start at h2
      rw [List.getElem?_append_left (by simpa using hi),List.getElem?_map] at h2
      cases e:vs[i]? with
      | none=>rw [e] at h2; cases h2
      | some a=>rw [e] at h2; cases h2; rfl
    obtain ⟨u,hu,rv⟩:=r.get ha
    have hp:ps[i]?=some y:=by
      rw [<- S.pre,List.getElem?_take_of_lt (by omega)]; exact h1
    have ndP:ps.Nodup:=by rw [<- S.pre]; exact S.nd.sublist (List.take_sublist _ _)
    refine ⟨u,rv,?_⟩
    rcases S.par y (List.mem_of_getElem? hp) with k | k
    · exact .inl ⟨k,bindL_get ndP hp hu k⟩
    · obtain ⟨c,e⟩:=cell_has (n:=s.heap.objs.size + 1) k
      refine .inr ⟨.inl k,c,e,?_⟩
      have q:=x.cell y c e
      rw [bindC_get ndP hp hu (by show scope.names.lookup y≠_; rw [k]; decide)] at q
      exact q
  · exact e0.hok.fresh (Nat.le_of_lt (x.above y c (PySem.mem_of_lookup h)))
  · unfold start
    show _=N.length
    rw [List.length_append,List.length_map,List.length_replicate]
    omega
theorem fn_of {CX:CXT} {P:Program} {w:World} {K:PySem.W.Frag} {mg:Str->Option Value} {base:Heap} {k:Nat} {f:Addr} {name qual:Str} {params:Arguments} {body:List Stmt} {scope:Scope} {dV kV doc pm cdv ct oc:Value} {an od:Option Addr}
    {osl:Array (Option Value)} {N ps:List Str} {sp:Sp} (lk:K.lookup f=some ⟨oc,od,.func (PySem.W.fnOf name qual params body scope dV kV doc pm an cdv ct),osl⟩) (hcd:PySem.W.codeIn K cdv qual=true) (S:FnScope N ps scope)
    (len:∀ vs H Q E,sp vs H Q E->vs.length=ps.length)
    (hbody:∀ (A:Around) (outer:List Env) (s:Shared) (H:Hp) (vs:List V) (Q:VK) (E:XK),Room k (A.deeper (envOfC qual scope s.heap.objs.size f cdv))->sp vs H Q E ->
      ∃ t,PSs (cxOf CX P w K mg base N qual scope f cdv A outer s H E) body t/\t { nx:=λ _ H'=>Q .non H',rt:=Q } (start N vs) H) :
    FnOk P w K mg base CX (k + 1) f (PySem.W.fnOf name qual params body scope dV kV doc pm an cdv ct) ps sp:=by
  refine ⟨len,λ A outer s H args us vs Q E hr e0 hb r hsp=>?_⟩
  have hl:=len _ _ _ _ hsp
  have KX:K.In s.heap:=e0.mod.kin.keeps λ b o e=>(e0.bs b o e).1
  have lim:s.heap.NoLimit:=e0.mod.nolimit.keeps λ b o e=>(e0.bs b o e).1
  have hkind:∀ y∈ps.zip us,scope.names.lookup y.1=some .local∨(scope.names.lookup y.1=some .cell/\((cellsFrom (s.heap.objs.size + 1) scope.names []).lookup y.1).isSome=true):=λ ⟨n,v⟩ hy=>by
    rcases S.par n (List.of_mem_zip hy).1 with q | q
    · exact .inl q
    · exact .inr ⟨q,PySem.W.cellsFrom_some _ _ _ (.inl q)⟩
  refine codeAny_call_function hr.depth (KX _ _ lk) rfl S.co S.gen rfl (PySem.W.codeRec_of KX hcd) (hb _ _ _ _ ?_)
  refine wpAny_newFunctionEnv_cells S.kind hkind λ env he s1 x=>?_
  subst he
  refine ⟨lim.keeps x.toInCall.keep,codeAny_func ?_⟩
  obtain ⟨t,ht,hq⟩:=hbody A outer s H vs Q E (hr.deeper _) hsp
  have I:Inv (cxOf CX P w K mg base N qual scope f cdv A outer s H E) [] (start N vs) H s1:=inv_start S hr.hd e0 hl r x
  refine wpAny_mono (ht [] s1 (start N vs) H _ I hq) (λ fl s' hs=>?_) λ e s' hs=>hs
  have fin:∀ {σ':St} {H':Hp} {v:V} {u:Value},Inv (cxOf CX P w K mg base N qual scope f cdv A outer s H E) [] σ' H' s'->RelV v u->Q v H'->CE outer P w H s Q u s' :=
    λ {σ' H' v u} J rv q=>⟨v,H',J.os,J.bare,J.base,J.hok,rv,q⟩
  cases fl with
  | ret u =>
    obtain ⟨v,σ',H',J,rv,q⟩:=hs
    exact fin J rv q
  | next =>
    obtain ⟨σ',H',J,q⟩:=hs
    exact fin (v:=V.non) (u:=Value.none) J rfl q
  | brk =>
    obtain ⟨_,_,_,q⟩:=hs
    exact False.elim q
  | cont =>
    obtain ⟨_,_,_,q⟩:=hs
    exact False.elim q
end L2
namespace L2
open PySem PySem.Spec PyProof.Rows
section
variable {X:Cx} {x:Str} {p pos:Pos} {e:Expr} {es:List Expr} {t:TA} {id T:String} {r:List V->Hp->VK->Prop}
def tCB (r:List V->Hp->VK->Prop) (t:TA):TE:=λ σ H Q=>t σ H λ vs H1=>r vs H1 Q
theorem pe_callB (hc:CallR X (.builtin id) r) (hg:Gl X x) (hm:X.mg x=none) (hv:bootBuiltins x=some (.builtin id)) (ha:PA X (e::es) t) (hn:x≠"__name__":=by decide) (hdb:(x == ("__debug__":Str))=false:=by decide)
    (he:starEach (e::es) X.env=(false,eval e X.env)::starEach es X.env:=by rfl) (hpl:(backTo pos (starEach es X.env)).any (·.1)=false:=by rfl):PE X (.Call (.Name x p) (e::es) [] pos) (tCB r t):=by
  intro pins s σ H Q I h
  refine wpAny_Call_Name_kw (ld_blt I hg hm hv ?_ hn hdb)
  exact PyProof.Rows.callWith_builtin1 (thn (ha pos pins s σ H _ I h) λ us s1 ⟨vs,H1,I1,r1,q1⟩=>hc pins s1 σ H1 vs us Q I1 r1 q1) he hpl
theorem pe_callTy (hc:CallR X (.type T) r) (hg:Gl X x) (hm:X.mg x=none) (hv:bootBuiltins x=some (.type T)) (ha:PA X (e::es) t) (hn:x≠"__name__":=by decide) (hdb:(x == ("__debug__":Str))=false:=by decide)
    (he:starEach (e::es) X.env=(false,eval e X.env)::starEach es X.env:=by rfl) (hpl:(backTo pos (starEach es X.env)).any (·.1)=false:=by rfl):PE X (.Call (.Name x p) (e::es) [] pos) (tCB r t):=by
  intro pins s σ H Q I h
  refine wpAny_Call_Name_kw (ld_blt I hg hm hv ?_ hn hdb)
  exact PyProof.Rows.callWith_type1 (thn (ha pos pins s σ H _ I h) λ us s1 ⟨vs,H1,I1,r1,q1⟩=>hc pins s1 σ H1 vs us Q I1 r1 q1) he hpl
end
end L2
namespace HT
open PySem PyProof.Rows
section
open PySem.SeqAt
open PySem.AutoSeq1 (wpAny_loadPart')
open PySem.MeetsSeq PySem.MeetsSeq2 PySem.MeetsSeq3
end
section
variable {prog:Program} {w:World} {A:Around} {E:Value->Shared->Prop} {s:Shared}
theorem cat_tup {t b:Addr} {vs ws:List Value} {Q:Value->Shared->Prop} (ht:IsTup s.heap t vs.toArray) (hb:IsTup s.heap b ws.toArray) (hv:vs≠[])
    (h1:ws=[]->Q (.ref t) s) (h2:ws≠[]->Q (.ref s.heap.objs.size) { s with heap:=s.heap.push { cls:=.type "tuple",data:=.seq (vs++ws).toArray } })
    (hsz:vs.length + ws.length<=sizeLine):wpAny (model prog w) A (binaryOp .Add (.ref t) (.ref b)) Q E s:=by
  obtain ⟨⟨cls,dd,data,sl⟩,ho,hc,n,hd⟩:=id ht
  obtain ⟨⟨cls2,dd2,data2,sl2⟩,ho2,hc2,n2,hd2⟩:=id hb
  simp only at hc hd hc2 hd2
  subst hc hd hc2 hd2
  have e:vs.toArray++ws.toArray=(vs++ws).toArray:=by simp
  by_cases hw:ws=[]
  · exact concat_meets ⟨_,ho,rfl⟩ ⟨_,ho2,rfl⟩ noFill_tuple_add seq_tuple_add PySem.F.slot_tuple_add PySem.F.entry_tuple_add (PySem.F.args_tuple_add_2 _ _)
      (tuple_addW1 t b vs.toArray ws.toArray n n2 dd dd2 sl sl2 (by simpa using hv) (by simp [hw])) ⟨ho,ho2,h1 hw⟩
  · refine concat_meets ⟨_,ho,rfl⟩ ⟨_,ho2,rfl⟩ noFill_tuple_add seq_tuple_add PySem.F.slot_tuple_add PySem.F.entry_tuple_add (PySem.F.args_tuple_add_2 _ _)
      (tuple_addW2 t b vs.toArray ws.toArray n n2 dd dd2 sl sl2 (by simpa using hv) (by simpa using hw) (by rw [List.size_toArray,List.size_toArray]; exact hsz)) ⟨ho,ho2,?_⟩
    rw [e]
    exact h2 hw
def sIx (n d:Nat):Option Int->Nat
  | none=>d
  | some v=>if v < 0 then (v + (n:Int)).toNat else min v.toNat n
end
end HT
namespace L2
open PySem PySem.Spec PyProof.Rows
abbrev TO:=St->Hp->(Option Int->Hp->Prop)->Prop
def PO (X:Cx) (e:Option Expr) (t:TO):Prop :=
  ∀ (pins:List (Addr×Obj)) (s:Shared) (σ:St) (H:Hp) (Q:Option Int->Hp->Prop),Inv X pins σ H s->t σ H Q ->
    wpAny (model X.prog X.w) X.A (evalPart e X.env) (λ u s'=>∃ o H',Inv X pins σ H' s'/\IsPart u o/\Q o H') X.xe s
def tPart (t:TE):TO:=λ σ H Q=>t σ H λ x H1=>∃ i,x=.int i/\Q (some i) H1
section
variable {X:Cx} {e:Expr} {te:TE} {lo hi:Option Expr} {tl th:TO} {pos p2:Pos}
theorem po_some (h:PE X e te):PO X (some e) (tPart te):=by
  intro pins s σ H Q I hw
  rw [evalPart_some]
  refine thn (h pins s σ H _ I hw) λ u s1 ⟨x,H1,I1,r1,q1⟩=>?_
  obtain ⟨i,rfl,q⟩:=q1
  obtain ⟨t,rfl⟩:=r1
  exact ⟨some i,H1,I1,.int i t,q⟩
def SlR (X:Cx) (r:V->Option Int->Option Int->Hp->VK->Prop):Prop :=
  ∀ (pins:List (Addr×Obj)) (s:Shared) (σ:St) (H:Hp) (x:V) (v vl vu:Value) (lo hi:Option Int) (sl:Addr) (Q:VK),Inv X pins σ H s->RelV x v->s.heap.IsSliceOf sl vl vu .none->IsPart vl lo->IsPart vu hi->r x lo hi H Q ->
    ∃ T id,typeLookup (.type T) "__getitem__"=pure (some (.builtin id))/\s.TypeIs v T/\wpAny (model X.prog X.w) X.A (getItem v (.ref sl)) (EP X pins σ Q) X.xe s
def tSl (r:V->Option Int->Option Int->Hp->VK->Prop) (te:TE) (tl th:TO):TE:=λ σ H Q=>te σ H λ x H1=>tl σ H1 λ l H2=>th σ H2 λ u H3=>r x l u H3 Q
theorem pe_slice {r:V->Option Int->Option Int->Hp->VK->Prop} (hr:SlR X r) (he:PE X e te) (hl:PO X lo tl) (hu:PO X hi th):PE X (.Subscript e (.Slice lo hi none p2) pos) (tSl r te tl th):=by
  intro pins s σ H Q I h
  refine Subscript_ (thn (he pins s σ H _ I h) λ v s1 ⟨x,H1,I1,r1,q1⟩=>?_)
  refine wpAny_Slice (thn (hl pins s1 σ H1 _ I1 q1) λ vl s2 ⟨l,H2,I2,pl,q2⟩=>thn (hu pins s2 σ H2 _ I2 q2) λ vu s3 ⟨u,H3,I3,pu,q3⟩=>?_)
  rw [evalPart_none]
  refine wpAny_pure ?_
  have I4:Inv X pins σ H3 { s3 with heap:=s3.heap.push { cls:=.type "slice",data:=.fields #[vl,vu,.none] } }:=I3.kept (t':=s3.toks) λ b ob q=>Heap.get?_push_of_some _ q
  obtain ⟨T,id,hT,ht,hg⟩:=hr pins { s3 with heap:=s3.heap.push { cls:=.type "slice",data:=.fields #[vl,vu,.none] } } σ H3 x v vl vu l u s3.heap.objs.size Q I4 r1 (Heap.IsSliceOf.new ..) pl pu q3
  show wpAny (model X.prog X.w) X.A (subscriptTail e (.Slice lo hi none p2) v (.ref s3.heap.objs.size)) (EP X pins σ Q) X.xe { s3 with heap:=s3.heap.push { cls:=.type "slice",data:=.fields #[vl,vu,.none] } }
  exact tail_any (ops:=[.ref s3.heap.objs.size,v]) ht hT hg (by with_unfolding_all rfl)
def cutV (xs:List V) (lo hi:Option Int):List V:=(xs.drop (HT.sIx xs.length 0 lo)).take (HT.sIx xs.length xs.length hi - HT.sIx xs.length 0 lo)
theorem cutV_length (xs:List V) (lo hi:Option Int):(cutV xs lo hi).length<=xs.length:=by
  unfold cutV
  rw [List.length_take,List.length_drop]
  omega
def rCatT (K:PySem.W.Frag):R2:=λ x y H Q=>∃ a b xs ys,x=.ref a/\y=.ref b/\SqT K H a xs/\SqT K H b ys/\xs≠[]/\xs.length + ys.length<=sizeLine /\
  (ys=[]->Q (.ref a) H)/\(ys≠[]->∀ p,H p=none->Q (.ref p) (upd H p (.tup (xs++ys))))
theorem Vals.nil_iff {xs:List V} {us:List Value} (r:Vals xs us):us=[]↔xs=[]:=by
  cases r with
  | nil=>simp
  | cons _ _=>simp
theorem op_catT:OpR X (binaryOp .Add) (rCatT X.K):=by
  intro pins s σ H x y v u Q I rx ry h
  obtain ⟨a,b,xs,ys,rfl,rfl,ha,hb,hx,hz,q1,q2⟩:=h
  cases rx
  cases ry
  obtain ⟨its,r1,p1,_⟩:=I.tuple ha
  obtain ⟨its2,r2,p2,_⟩:=I.tuple hb
  refine HT.cat_tup p1 p2 (λ z=>hx (r1.nil_iff.mp z)) (λ z=>⟨.ref a,H,I,rfl,q1 (r2.nil_iff.mp z)⟩) (λ z=>?_) (by rw [<- r1.length,<- r2.length]; exact hz)
  refine ⟨.ref s.heap.objs.size,_,I.laid (t':=s.toks) (o:=.tup (xs++ys)) (λ b ob q=>Heap.get?_push_of_some _ q) (Nat.le_refl _) ?_,rfl,q2 (λ w=>z (r2.nil_iff.mpr w)) _ (I.hok.fresh (Nat.le_refl _))⟩
  exact ⟨by rw [List.length_append]; exact hz,_,r1.append r2,IsTup.new _ _⟩
end
end L2
namespace L2
open PySem PySem.Spec PyProof.Rows
def ixN (n:Nat) (i:Int):Option Nat:=if 0<=i then (if i < n then some i.toNat else none) else if -(n:Int)<=i then some (i + n).toNat else none
def atI {α:Type} (xs:List α) (i:Int):Option α:=(ixN xs.length i).bind λ j=>xs[j]?
theorem ixN_seq {n:Nat} {i:Int} {j:Nat} (h:ixN n i=some j):seqIndex? i n=some j/\j < n/\-(n:Int)<=i/\i < n:=by
  unfold ixN at h
  by_cases h0:0<=i
  · rw [if_pos h0] at h
    by_cases h1:i < n
    · rw [if_pos h1] at h
      have e:i.toNat=j:=Option.some.inj h
      exact ⟨by rw [seqIndex_of h0 h1,e],by omega,by omega,h1⟩
    · rw [if_neg h1] at h; cases h
  · rw [if_neg h0] at h
    by_cases h1:-(n:Int)<=i
    · rw [if_pos h1] at h
      have e:(i + n).toNat=j:=Option.some.inj h
      exact ⟨by rw [seqIndex_neg (by omega) h1,e],by omega,h1,by omega⟩
    · rw [if_neg h1] at h; cases h
theorem atI_get {α:Type} {xs:List α} {i:Int} {v:α} (h:atI xs i=some v):∃ j,seqIndex? i xs.length=some j/\xs[j]?=some v/\j < xs.length/\-(xs.length:Int)<=i/\i < xs.length:=by
  unfold atI at h
  cases e:ixN xs.length i with
  | none=>rw [e] at h; cases h
  | some j =>
    rw [e] at h
    obtain ⟨h1,h2,h3,h4⟩:=ixN_seq e
    exact ⟨j,h1,h,h2,h3,h4⟩
theorem atI_nat {α:Type} {xs:List α} {j:Nat} {v:α} (h:xs[j]?=some v):atI xs (j:Int)=some v:=by
  have hj:j < xs.length:=(List.getElem?_eq_some_iff.mp h).1
  have e:ixN xs.length (j:Int)=some j:=by
    unfold ixN
    rw [if_pos (by omega),if_pos (by omega)]; simp
  unfold atI; rw [e]; exact h
def PlainIx (b:Expr):Prop:=∀ o i,subscripted b false o i=operate [o,i] (getItem o i)
def IxR (X:Cx) (r:R2):Prop :=
  ∀ (value slice:Expr) (pins:List (Addr×Obj)) (s:Shared) (σ:St) (H:Hp) (x y:V) (v u:Value) (Q:VK),Inv X pins σ H s->RelV x v->RelV y u->r x y H Q ->
    subscripted slice false v u=operate [v,u] (getItem v u)->wpAny (model X.prog X.w) X.A (subscriptTail value slice v u) (EP X pins σ Q) X.xe s
def MtR (X:Cx) (id:String) (r:V->List V->Hp->VK->Prop):Prop :=
  ∀ (pins:List (Addr×Obj)) (s:Shared) (σ:St) (H:Hp) (x:V) (xs:List V) (v:Value) (us:List Value) (Q:VK),Inv X pins σ H s->RelV x v->Vals xs us->r x xs H Q ->
    wpAny (model X.prog X.w) X.A (call (.builtin id) (v::us)) (EP X pins σ Q) X.xe s
section
variable {X:Cx} {a b:Expr} {ta tb:TE} {pos:Pos}
theorem IxR.or {r r':R2} (h:IxR X r) (h':IxR X r'):IxR X (λ x y H Q=>r x y H Q∨r' x y H Q):=by
  intro value slice pins s σ H x y v u Q I rx ry q hs
  rcases q with q | q
  · exact h value slice pins s σ H x y v u Q I rx ry q hs
  · exact h' value slice pins s σ H x y v u Q I rx ry q hs
theorem pe_ix {r:R2} (hr:IxR X r) (ha:PE X a ta) (hb:PE X b tb) (hs:PlainIx b):PE X (.Subscript a b pos) (tOp r ta tb):=by
  intro pins s σ H Q I h
  exact Subscript_ (binT ha hb I h λ v u s2 x y H2 I2 rx ry q=>hr a b pins s2 σ H2 x y v u Q I2 rx ry q (hs _ _))
def rIxL (K:PySem.W.Frag):R2:=λ x y H Q=>∃ p xs i v,x=.ref p/\y=.int i/\SqL K H p xs/\atI xs i=some v/\Q v H
def rIxT (K:PySem.W.Frag):R2:=λ x y H Q=>∃ p xs i v,x=.ref p/\y=.int i/\SqT K H p xs/\atI xs i=some v/\Q v H
def rIxS:R2:=λ x y H Q=>∃ z i c,x=.str z/\y=.int i/\z.length<=sizeLine/\atI z.cps.toList i=some c/\Q (.str ⟨#[c]⟩) H
theorem ix_list:IxR X (rIxL X.K):=by
  intro value slice pins s σ H x y v u Q I rx ry h hs
  obtain ⟨p,xs,i,z,rfl,rfl,hq,he,q⟩:=h
  cases rx
  obtain ⟨t,rfl⟩:=ry
  obtain ⟨its,r,pl,hz⟩:=I.list hq
  obtain ⟨j,h1,h2,h3,h4,h5⟩:=atI_get he
  obtain ⟨w,ew,rw'⟩:=r.get h2
  have hl:=r.length
  have hn:=line63
  have fin:EP X pins σ Q w s:=⟨z,H,I,rw',q⟩
  by_cases h0:0<=i
  · have hj:i.toNat=j:=by
      rw [seqIndex_of h0 h5] at h1
      exact Option.some.inj h1
    exact item_listR pl.isList h0 (by omega) (by rw [hj]; simpa using ew) fin hs
  · have hj:(i + (its.toArray.size:Int)).toNat=j:=by
      rw [seqIndex_neg (by omega) h4] at h1
      rw [List.size_toArray,<- hl]
      exact Option.some.inj h1
    exact subscriptTail_builtinR (x:=w) pl.isList.typeIs slot_list_getitem.lookup
      (wpAny_getItem_list_neg (Q:=λ r s'=>r=w/\EP X pins σ Q r s') pl.isList (by omega) (by rw [List.size_toArray] <;> omega) (by omega) (by rw [hj]; simpa using ew) ⟨rfl,fin⟩) hs
theorem ix_tup:IxR X (rIxT X.K):=by
  intro value slice pins s σ H x y v u Q I rx ry h hs
  obtain ⟨p,xs,i,z,rfl,rfl,hq,he,q⟩:=h
  cases rx
  obtain ⟨t,rfl⟩:=ry
  obtain ⟨its,r,pl,hz⟩:=I.tuple hq
  obtain ⟨j,h1,h2,h3,h4,h5⟩:=atI_get he
  obtain ⟨w,ew,rw'⟩:=r.get h2
  have hl:=r.length
  have hn:=line63
  have fin:EP X pins σ Q w s:=⟨z,H,I,rw',q⟩
  exact subscriptTail_builtinR (x:=w) pl.typeIs slot_tuple_getitem.lookup
    (getItem_tuple (j:=j) (Q:=λ r s'=>r=w/\EP X pins σ Q r s') pl (by omega) (by omega) (by rw [List.size_toArray,<- hl]; exact h1) (by simpa using ew) ⟨rfl,fin⟩) hs
theorem ix_str:IxR X rIxS:=by
  intro value slice pins s σ H x y v u Q I rx ry h hs
  obtain ⟨z,i,c,rfl,rfl,hz,he,q⟩:=h
  obtain ⟨t,rfl⟩:=rx
  obtain ⟨t',rfl⟩:=ry
  obtain ⟨j,h1,h2,h3,h4,h5⟩:=atI_get he
  have hl:z.cps.toList.length=z.length:=by simp [Str.length]
  rw [hl] at h1 h4 h5
  have hn:=line63
  exact tail_any (typeIs_str s z t) slot_str_getitem.lookup (getItem_str (c:=c) (by
    have e1:decide (i < -(2 ^ 63:Int))=false:=decide_eq_false (by omega)
    have e2:decide (i >= 2 ^ 63)=false:=decide_eq_false (by omega)
    rw [e1,e2,Bool.or_false]) (by rw [h1]; simpa using h2) ⟨.str ⟨#[c]⟩,H,I.tok _,⟨_,rfl⟩,q⟩) hs
def rIx (K:PySem.W.Frag):R2:=λ x y H Q=>rIxL K x y H Q∨rIxT K x y H Q∨rIxS x y H Q
theorem ix_seq:IxR X (rIx X.K):=ix_list.or (ix_tup.or ix_str)
theorem slice_bounds (lo hi:Option Int) (n:Nat):(sliceBounds lo hi none n).1=((HT.sIx n 0 lo:Nat):Int)/\(sliceBounds lo hi none n).2.1=((HT.sIx n n hi:Nat):Int)/\(sliceBounds lo hi none n).2.2=1:=by
  refine ⟨?_,?_,rfl⟩
  · cases lo with
    | none=>simp [sliceBounds,HT.sIx]
    | some i =>
      simp only [sliceBounds,HT.sIx,Option.getD_none,show (1:Int) > 0 by decide,if_true]
      by_cases h:i < 0
      · simp only [h,if_true] <;> omega
      · simp only [h,if_false] <;> omega
  · cases hi with
    | none=>simp [sliceBounds,HT.sIx]
    | some i =>
      simp only [sliceBounds,HT.sIx,Option.getD_none,show (1:Int) > 0 by decide,if_true]
      by_cases h:i < 0
      · simp only [h,if_true] <;> omega
      · simp only [h,if_false] <;> omega
theorem slicePick_cut (its:List Value) (lo hi:Option Int):slicePick its.toArray lo hi none=((its.drop (HT.sIx its.length 0 lo)).take (HT.sIx its.length its.length hi - HT.sIx its.length 0 lo)).toArray:=by
  obtain ⟨h1,h2,h3⟩:=slice_bounds lo hi its.toArray.size
  unfold slicePick
  rw [h1,h2,h3]
  simp only [sliceRange_one,pick_run,List.size_toArray] <;> rfl
def rSlL (K:PySem.W.Frag):V->Option Int->Option Int->Hp->VK->Prop:=λ x lo hi H Q=>∃ a xs,x=.ref a/\SqL K H a xs/\∀ p,H p=none->Q (.ref p) (upd H p (.lst (cutV xs lo hi)))
theorem sl_list:SlR X (rSlL X.K):=by
  intro pins s σ H x v vl vu lo hi sl Q I rx hs pl pu h
  obtain ⟨a,xs,rfl,hx,q⟩:=h
  cases rx
  obtain ⟨its,r,ht,hz⟩:=I.list hx
  have hlen:=r.length
  refine ⟨"list",_,slot_list_getitem.lookup,ht.isList.typeIs,?_⟩
  refine wpAny_getItem_list_slice ht.isList hs pl pu .none (by simp) ?_ (by rw [List.size_toArray] <;> omega)
  rw [slicePick_cut,<- hlen]
  refine ⟨.ref s.heap.objs.size,_,I.laid (t':=s.toks) (o:=.lst (cutV xs lo hi)) (λ b ob q=>Heap.get?_push_of_some _ q) (Nat.le_refl _) ?_,rfl,q _ (I.hok.fresh (Nat.le_refl _))⟩
  exact ⟨Nat.le_trans (cutV_length xs lo hi) hz,_,0,(r.drop (HT.sIx xs.length 0 lo)).take (HT.sIx xs.length xs.length hi - HT.sIx xs.length 0 lo),Heap.get?_push_size _ rfl⟩
theorem CallR.or {f:Value} {r r':List V->Hp->VK->Prop} (h:CallR X f r) (h':CallR X f r'):CallR X f (λ xs H Q=>r xs H Q∨r' xs H Q):=by
  intro pins s σ H xs us Q I rs q
  rcases q with q | q
  · exact h pins s σ H xs us Q I rs q
  · exact h' pins s σ H xs us Q I rs q
theorem call_list_of:CallR X (.type "list") (λ xs H Q=>∃ p ys,xs=[.ref p]/\(SqL X.K H p ys∨SqT X.K H p ys)/\∀ l,H l=none->Q (.ref l) (upd H l (.lst ys))):=by
  intro pins s σ H xs us Q I r h
  obtain ⟨p,ys,rfl,hq,q⟩:=h
  obtain ⟨u,rfl,rx⟩:=vals1 r
  cases rx
  have fin:∀ (its:List Value),Vals ys its->ys.length<=sizeLine->∀ (h':Heap) (c':Nat),(∀ b o',s.heap.get? b=some o'->h'.get? b=some o') ->
      h'.get? s.heap.objs.size=some { cls:=.type "list",dict:=none,data:=.seq its.toArray c',slots:=#[] }->EP X pins σ Q (.ref s.heap.objs.size) { s with heap:=h' }:=λ its r' hz h' c' kp e =>
    ⟨.ref s.heap.objs.size,_,I.laid (t':=s.toks) kp (Nat.le_refl _) (show ObjOk X.prog X.w _ h' _ (.lst ys) from ⟨hz,its,c',r',e⟩),rfl,q _ (I.hok.fresh (Nat.le_refl _))⟩
  rcases hq with hq | hq
  · obtain ⟨its,r',pl,hz⟩:=I.list hq
    have hlen:=r'.length
    obtain ⟨o,ho,hc,n,hd⟩:=pl.isList
    exact call_list_seq p (.inl rfl) ho hc hd (λ h' c' kp e=>fin its r' hz h' c' kp e) (by simp only [List.size_toArray] <;> omega)
  · obtain ⟨its,r',pl,hz⟩:=I.tuple hq
    have hlen:=r'.length
    obtain ⟨o,ho,hc,n,hd⟩:=pl
    exact call_list_seq p (.inr rfl) ho hc hd (λ h' c' kp e=>fin its r' hz h' c' kp e) (by simp only [List.size_toArray] <;> omega)
theorem call_tuple_of:CallR X (.type "tuple") (λ xs H Q=>∃ p ys,xs=[.ref p]/\((SqL X.K H p ys/\∀ l,H l=none->Q (.ref l) (upd H l (.tup ys)))∨(SqT X.K H p ys/\Q (.ref p) H))):=by
  intro pins s σ H xs us Q I r h
  obtain ⟨p,ys,rfl,h⟩:=h
  obtain ⟨u,rfl,rx⟩:=vals1 r
  cases rx
  rcases h with ⟨hq,q⟩ | ⟨hq,q⟩
  · obtain ⟨its,r',pl,hz⟩:=I.list hq
    have hlen:=r'.length
    refine call_tuple_list pl.isList (λ h' kp=>?_) (by simp only [List.size_toArray] <;> omega)
    have I1:Inv X pins σ H { s with heap:=h' }:=I.kept (t':=s.toks) kp
    have I2:Inv X pins σ (upd H h'.objs.size (.tup ys)) { s with heap:=h'.push { cls:=.type "tuple",data:=.seq its.toArray } } :=
      I1.laid (t':=s.toks) (λ b o e=>Heap.get?_push_of_some _ e) (Nat.le_refl _) (show ObjOk X.prog X.w _ _ _ (.tup ys) from ⟨hz,its,r',IsTup.new _ _⟩)
    exact ⟨.ref h'.objs.size,_,I2,rfl,q _ (I1.hok.fresh (Nat.le_refl _))⟩
  · obtain ⟨its,r',pl,hz⟩:=I.tuple hq
    exact call_tuple_same pl ⟨.ref p,H,I,rfl,q⟩
def tyV (K:PySem.W.Frag) (T:String) (x:V) (H:Hp):Prop:=match x with
  | .str _=>T="str"
  | .int _=>T="int"
  | .ref p=>(T="list"/\∃ xs,SqL K H p xs)∨(T="tuple"/\∃ o,K.lookup p=some o/\o.cls=.type "tuple"/\o.dict=none) ∨
      (T="dict"/\((∃ kvs,H p=some (.dK kvs))∨∃ kvs,H p=some (.dT kvs)))∨(T="set"/\∃ S n,H p=some (.set S n))
  | _=>False
theorem tyV_is {pins:List (Addr×Obj)} {σ:St} {H:Hp} {s:Shared} {T:String} {x:V} {v:Value} (I:Inv X pins σ H s) (r:RelV x v) (ty:tyV X.K T x H) :
    s.TypeIs v T/\∀ a,v=.ref a->∃ ob,s.heap.get? a=some ob/\ob.dict=none:=by
  cases x with
  | str z =>
    obtain ⟨t,rfl⟩:=r
    cases (show T="str" from ty)
    exact ⟨typeIs_str s z t,λ _ e=>nomatch e⟩
  | int i =>
    obtain ⟨t,rfl⟩:=r
    cases (show T="int" from ty)
    exact ⟨typeIs_int s i t,λ _ e=>nomatch e⟩
  | ref p =>
    cases r
    rcases ty with ⟨rfl,xs,hq⟩ | ⟨rfl,o,hk,hc,hd⟩ | ⟨rfl,hk⟩ | ⟨rfl,S,n,hk⟩
    · obtain ⟨its,_,pl,_⟩:=I.list hq
      refine ⟨pl.isList.typeIs,λ a e=>?_⟩
      cases e
      obtain ⟨o,n,e,c,hd,_⟩:=pl
      exact ⟨o,e,hd⟩
    · refine ⟨⟨o,I.kIn p o hk,hc⟩,λ a e=>?_⟩
      cases e
      exact ⟨o,I.kIn _ o hk,hd⟩
    · have z:∃ o,s.heap.get? p=some o/\o.ExactDict:=by
        rcases hk with ⟨kvs,hk⟩ | ⟨kvs,hk⟩
        · obtain ⟨_,_,_,_,o,_,_,e,ex,_⟩:=I.hok p _ hk
          exact ⟨o,e,ex⟩
        · obtain ⟨_,_,_,_,o,_,_,e,ex,_⟩:=I.hok p _ hk
          exact ⟨o,e,ex⟩
      obtain ⟨o,e,ex⟩:=z
      refine ⟨⟨o,e,ex.1⟩,λ a e2=>?_⟩
      cases e2
      exact ⟨o,e,ex.2.1⟩
    · obtain ⟨o,_,_,_,e,ex,_⟩:=I.hok p _ hk
      refine ⟨⟨o,e,ex.1⟩,λ a e2=>?_⟩
      cases e2
      exact ⟨o,e,ex.2.1⟩
  | _=>exact False.elim ty
def tBM (K:PySem.W.Frag) (T:String) (r:V->List V->Hp->VK->Prop) (to:TE) (t:TA):TE:=λ σ H Q=>to σ H λ x H1=>tyV K T x H1/\t σ H1 λ xs H2=>r x xs H2 Q
variable {o e:Expr} {es:List Expr} {to:TE} {t:TA} {name:Str} {apos cpos:Pos} {T id:String} {r:V->List V->Hp->VK->Prop}
theorem pe_bm (pa:PlainAttrs T) (slot:Slot T name id) (hty:typeOf (.builtin id)=pure (.type "method_descriptor")) (hm:MtR X id r) (ho:PE X o to) (ha:PA X (e::es) t)
    (hbase:attributeBase o name X.env (eval o X.env)=eval o X.env:=by rfl)
    (hfew:((backTo cpos (starEach (e::es) X.env)).all (λ x=>!x.1)&&(backToKw cpos (keywordEach [] X.env)).all (λ x=>x.1.isSome)
     &&decide ((e::es).length + ([]:List Keyword).length + (if ([]:List Keyword).isEmpty then 0 else 1) < 30))=true:=by rfl)
    (hline:(apos.endLine == cpos.line)=true:=by rfl) (hs:starEach (e::es) X.env=(false,eval e X.env)::starEach es X.env:=by rfl) (hplain:(backTo cpos (starEach es X.env)).any (·.1)=false:=by rfl) :
    PE X (.Call (.Attribute o name apos) (e::es) [] cpos) (tBM X.K T r to t):=by
  intro pins s σ H Q I h
  refine wpAny_Call_method_late hbase hfew hline rfl (thn (ho pins s σ H _ I h) λ v s1 ⟨x,H1,I1,r1,ty,q1⟩=>?_)
  obtain ⟨h1,h2⟩:=tyV_is I1 r1 ty
  refine ⟨T,id,pa,slot,hty,h1,h2,?_⟩
  have hA:=ha cpos pins s1 σ H1 _ I1 q1
  rw [hs] at hA ⊢
  refine Calls.callWith_builtin (by show (false||(backTo cpos (starEach es X.env)).any (·.1))=false; rw [hplain] <;> rfl) (Calls.evalArgs_plain ?_)
  exact thn hA λ us s2 ⟨vs,H2,I2,r2,q2⟩=>hm pins s2 σ H2 x vs v us Q I2 r1 r2 q2
end
end L2
namespace L2
open PySem PySem.Spec PyProof.Rows
def MtM (X:Cx) (id:String) (r:V->List V->Hp->VK->Prop):Prop :=
  ∀ (pins:List (Addr×Obj)) (s:Shared) (σ:St) (H:Hp) (x:V) (xs:List V) (v:Value) (us:List Value) (Q:VK),Inv X pins σ H s->RelV x v->Vals xs us->r x xs H Q ->
    wpAny (model X.prog X.w) X.A (call (.builtin id) (v::us)) (EP X pins σ Q) X.xe s
theorem Vals.one:∀ {x:V} {us:List Value},Vals [x] us->∃ u,us=[u]/\RelV x u
  | _,_,.cons r .nil=>⟨_,rfl,r⟩
theorem Vals.two:∀ {x y:V} {us:List Value},Vals [x,y] us->∃ u v,us=[u,v]/\RelV x u/\RelV y v
  | _,_,_,.cons r (.cons q .nil)=>⟨_,_,rfl,r,q⟩
section
variable {X:Cx} {pins:List (Addr×Obj)} {σ:St} {H:Hp} {s:Shared} {l b:Addr} {xs ys zs:List V}
theorem Inv.lset {its its':List Value} {n:Nat} {f:Array Value->Array Value} {t':Nat} (I:Inv X pins σ H s) (hH:H l=some (.lst xs))
    (e:s.heap.get? l=some { cls:=.type "list",data:=.seq its.toArray n }) (hf:f its.toArray=its'.toArray) (hv:Vals ys its') (hz:ys.length<=sizeLine) :
    Inv X pins σ (upd H l (.lst ys)) { s with heap:=s.heap.update l (Obj.mapSeq f),toks:=t' }:=by
  have q:=PySem.IsL.update e f
  rw [hf] at q
  refine I.write (x:=l) (e:=l) (by rw [hH]; exact trivial) (.inl rfl) (λ b' u hb hu=>(Heap.get?_update_other s.heap (Obj.mapSeq f) (Ne.symm hb)).trans hu) ⟨_,q⟩ ?_
  exact ⟨hz,its',_,hv,q⟩
theorem Inv.fresh (I:Inv X pins σ H s):H s.heap.objs.size=none:=I.hok.fresh (Nat.le_refl _)
theorem Inv.lstM (I:Inv X pins σ H s) (hH:H l=some (.lst xs)):xs.length<=sizeLine/\∃ (its:List Value) (n:Nat),Vals xs its/\xs.length=its.length/\s.heap.get? l=some { cls:=.type "list",data:=.seq its.toArray n }:=by
  obtain ⟨z,its,n,r,e⟩:=I.hok l _ hH
  exact ⟨z,its,n,r,r.length,e⟩
end
section
variable {X:Cx}
def rAppend:V->List V->Hp->VK->Prop:=λ x vs H Q=>∃ l xs y,x=.ref l/\vs=[y]/\H l=some (.lst xs)/\xs.length < sizeLine/\Q .non (upd H l (.lst (xs++[y])))
theorem mt_append:MtM X "list.append" rAppend:=by
  intro pins s σ H x vs v us Q I rx rv h
  obtain ⟨l,xs,y,rfl,rfl,hH,hz,q⟩:=h
  cases rx
  obtain ⟨u,rfl,ru⟩:=rv.one
  obtain ⟨z,its,n,r,hl,e⟩:=I.lstM hH
  refine call_meets F.slot_list_append ⟨_,e,rfl⟩ F.entry_list_append (F.args_list_append_2 _ _) (PySem.list_append l its.toArray n u (by rw [List.size_toArray]; omega)) ⟨e,?_⟩
  refine ⟨.non,_,I.lset (its':=its++[u]) hH e (by simp) (r.append (.cons ru .nil)) ?_,rfl,q⟩
  rw [List.length_append,List.length_singleton]
  omega
end
section
variable {prog:Program} {w:World} {A:Around} {E:Value->Shared->Prop} {s:Shared}
end
section
variable {X:Cx}
end
end L2
namespace Att
open PySem PySem.W PySem.Calls PyProof.Rows
theorem ints_of_wellAll {P:Params} {h:Heap}:∀ (ns:List Int) (vs:List Value),WellAll P h vs (ns.map WData.int)->IntsAre vs ns:=by
  intro ns
  induction ns with
  | nil =>
    intro vs w
    rw [List.map_nil] at w
    cases w
    exact .nil
  | cons n ns ih =>
    intro vs w
    rw [List.map_cons] at w
    cases w with
    | cons a b =>
      cases a
      exact .cons _ _ (ih _ b)
theorem script_of {l:OpenLaw} {n:Nat} (hn:l.most=some n) {P:Params} {h:Heap} {args:List WData} {vals:List Value}
    (hpre:l.row.toRowW.claim.pre args=true) (hwl:WellAll P h vals args) :
    ∃ a vs ns,vals=[Value.ref a]/\args=[WData.list (ns.map WData.int)]/\h.get? a=some { cls:=.type "list",data:=.seq vs.toArray }/\IntsAre vs ns/\ns.length<=n:=by
  have hsh:WShape.hasAll [] args [.list .int]=true:=(pre_splitW hpre).1
  have hc:l.pre.holds [] { args:=args }=true:=(pre_splitW hpre).2
  obtain ⟨d,r,rfl,h1,h2⟩:=hasAllW_cons hsh
  obtain rfl:=hasAllW_nil h2
  obtain ⟨xs,rfl,h3⟩:=hasW_list h1
  obtain ⟨ns,rfl⟩:=items_int h3
  have hlen:ns.length<=n:=by
    unfold OpenLaw.pre at hc
    have h4:(WTm.not (.lt (.lit (.int (n:Int))) (.len (.arg 0)))).holds [] { args:=[.list (ns.map .int)] }=true:=by
      have h4:=(holds_andW hc).1
      rw [hn] at h4
      exact h4
    have h5:=condW_of h4 (w_not (w_lt w_lit (w_len_list (w_arg rfl))))
    rw [List.length_map] at h5
    refine Nat.le_of_not_lt λ q=>?_
    have q':(n:Int) < ((ns.length:Nat):Int):=by omega
    first
      | (rw [decide_eq_true q'] at h5; exact absurd h5 (by decide))
      | (simp at h5; omega)
  cases hwl with
  | cons w1 w2 =>
    cases w2
    cases w1 with
    | list ho hall=>exact ⟨_,_,ns,rfl,rfl,ho,ints_of_wellAll ns _ hall,hlen⟩
theorem post_true (l:OpenLaw) (args:List WData):l.row.toRowW.claim.post args (.bool true) args=true :=
  postW_of (r:=l.row.toRowW) (X:=(true == true))
    (show WShape.has [] (.bool true) .bool=true by first | rfl | decide | simp [WShape.has,WShape.arms,WShape.armsAll])
    (show (WTm.eq .res (.lit (.bool true))).value [] { args:=args,res:=some (.bool true),after:=args }=some (.bool (true == true)) from w_eq_bool (w_res rfl) w_lit) rfl
theorem attach_call {l:OpenLaw} {n:Nat} {q:Program} {loose:List Str} {XP:(Str->Option Value)->Heap->Prop} {YP:World->Heap->Prop} {d:DefRec}
    (hn:l.most=some n) (hdf:d.params.defaults=[])
    (call:∀ (w:World) (s₀ s₁:Shared) (mg mb:Str->Option Value) (fa:Addr) (o:Obj) (pm cd doc:Value) (a:Addr) (vs:List Value) (ns:List Int),
      Ground q loose [] XP w s₀ mg mb s₁.heap->YP w s₁.heap ->
      s₁.heap.get? fa=some o->o.data=.func (docDef d.name d.params d.body d.scope pm cd doc)->s₁.heap.CodeRec cd d.name->mg d.name=some (.ref fa) ->
      s₁.heap.get? a=some { cls:=.type "list",data:=.seq vs.toArray }->IntsAre vs ns->ns.length<=n->s₁.gens=#[] ->
      codeAny (model l.prog w) callerA (.call (.ref fa) ⟨[.ref a],[]⟩) (λ r s'=>r=.ok (.ret (.bool true))/\OldK s₁.heap s'.heap/\s'.os=s₁.os/\AllBare s'.gens) s₁) :
    WalkO q loose XP YP l.row.toRowW d [] (λ f vs=>PySem.call f vs):=by
  intro w s₀ s₁ mg mb G Y fa o pm cd doc dV kV ho hd hcd hD hmg hg args vals as hpre hlay hrd hwl hlo
  obtain rfl:dV=.none:=Dflts.none hD hdf
  obtain rfl:kV=.none:=Dflts.noKw hD
  obtain ⟨a,vs,ns,rfl,rfl,hobj,hints,hlen⟩:=script_of hn hpre hwl
  refine enter_call (codeAny_mono (call w s₀ s₁ mg mb fa o pm cd doc a vs ns G Y ho (fd_plain hd) hcd hmg hobj hints hlen hg) λ r s' hq=>?_)
  obtain ⟨rfl,h2,h3,h4⟩:=hq
  exact ⟨.inl ⟨.bool true,.bool true,[],rfl,λ _=>rfl,.bool true,post_true l _,λ _=>⟨List.Pairwise.nil,λ _ hm=>(nomatch hm)⟩⟩,h2,h3,h4⟩
section
variable {prog:Program} {w:World} {A:Around} {E:Value->Shared->Prop} {s:Shared} {K:Frag}
end
end Att
namespace L2
open PySem PySem.Spec PyProof.Rows
theorem vals_ints:∀ {vs:List Value} {ns:List Int},IntsAre vs ns->Vals (ns.map V.int) vs
  | _,_,.nil=>.nil
  | _,_,.cons n t h=>.cons ⟨t,rfl⟩ (vals_ints h)
end L2
namespace L2
open PySem PySem.Spec PyProof.Rows
end L2
namespace L2
open PySem PySem.Spec PyProof.Rows
def defArgs (s:Stmt):Arguments:=match s with
  | .FunctionDef _ a _ _ _ _ _ _ _ _=>a
  | _=>{ posonlyargs:=[],args:=[],vararg:=none,kwonlyargs:=[],kw_defaults:=[],kwarg:=none,defaults:=[] }
def defBody (s:Stmt):List Stmt:=match s with
  | .FunctionDef _ _ b _ _ _ _ _ _ _=>b
  | _=>[]
def defScope (s:Stmt):Scope:=match s with
  | .FunctionDef _ _ _ _ _ _ sc _ _ _=>sc
  | _=>{ kind:=.function,names:=[],isGenerator:=false,isCoroutine:=false }
abbrev E0:XK:=λ _ _ _=>False
structure Fun (K:PySem.W.Frag) (x qual:Str) (st:Stmt) (f:Addr) (fd:FuncData):Prop where
  ex:∃ (oc:Value) (od:Option Addr) (kV doc pm:Value) (an:Option Addr) (cdv ct:Value) (osl:Array (Option Value)),
    fd=PySem.W.fnOf x qual (defArgs st) (defBody st) (defScope st) .none kV doc pm an cdv ct/\K.lookup f=some ⟨oc,od,.func fd,osl⟩/\PySem.W.codeIn K cdv qual=true
  kp:PySem.W.keepIn K (.ref f)=true
section
variable {P:Program} {w:World} {K:PySem.W.Frag} {mg:Str->Option Value} {base:Heap}
theorem Fun.binds {x qual:Str} {st:Stmt} {f:Addr} {fd:FuncData} {ps:List Str} (F:Fun K x qual st f fd)
    (h:∀ (kV doc pm:Value) (an:Option Addr) (cdv ct:Value) (us:List Value),us.length=ps.length->bindArgs (PySem.W.fnOf x qual (defArgs st) (defBody st) (defScope st) .none kV doc pm an cdv ct) ⟨us,[]⟩=pure (ps.zip us)):Binds K fd ps []:=by
  obtain ⟨oc,od,kV,doc,pm,an,cdv,ct,osl,rfl,lk,hcd⟩:=F.ex
  exact .all (h kV doc pm an cdv ct)
theorem fun_mk {x qual:Str} {st:Stmt} {f:Addr} {oc:Value} {od an:Option Addr} {osl:Array (Option Value)} {kV doc pm cdv ct:Value} (l:K.lookup f=some ⟨oc,od,.func (PySem.W.fnOf x qual (defArgs st) (defBody st) (defScope st) .none kV doc pm an cdv ct),osl⟩)
    (c:PySem.W.codeIn K cdv qual=true) (k:PySem.W.keepIn K (.ref f)=true):Fun K x qual st f (PySem.W.fnOf x qual (defArgs st) (defBody st) (defScope st) .none kV doc pm an cdv ct):=⟨⟨oc,od,kV,doc,pm,an,cdv,ct,osl,rfl,l,c⟩,k⟩
end
section
variable {X:Cx}
end
theorem iteF {A B:Prop} (h:B):if false=true then A else B:=by
  rw [if_neg Bool.false_ne_true]
  exact h
theorem iteT {A B:Prop} (h:A):if true=true then A else B:=by
  rw [if_pos rfl]
  exact h
def Same (H H':Hp):Prop:=∀ b o,H b=some o->H' b=some o
theorem Same.refl (H:Hp):Same H H:=λ _ _ h=>h
theorem Same.trans {H H1 H2:Hp} (a:Same H H1) (b:Same H1 H2):Same H H2:=λ c o h=>b c o (a c o h)
theorem Same.free {H H':Hp} (e:Same H H') {l:Addr} (h:H' l=Option.none):H l=Option.none:=by
  cases q:H l with
  | none=>rfl
  | some o =>
    rw [e l o q] at h
    cases h
theorem Same.seq {K:PySem.W.Frag} {H H':Hp} {a:Addr} {xs:List V} (e:Same H H') (h:SqL K H a xs):SqL K H' a xs:=by
  rcases h with (h | ⟨o,h⟩) | h
  · exact .inl (.inl (e _ _ h))
  · exact .inl (.inr ⟨o,e _ _ h⟩)
  · exact .inr h
end L2


namespace Wy
open PySem PySem.Spec PyProof.Rows L2
inductive D where
  | non | bl (b:Bool) | int (i:Int) | str (x:Str) | tup (xs:List D) | lst (xs:List D)
mutual
def Den (K:PySem.W.Frag) (G:Hp):D->V->Prop
  | .non,v=>v=.non
  | .bl b,v=>v=.bl b
  | .int i,v=>v=.int i
  | .str x,v=>v=.str x
  | .tup ds,v=>∃ a vs,v=.ref a/\SqT K G a vs/\DenL K G ds vs
  | .lst ds,v=>∃ a vs,v=.ref a/\SqL K G a vs/\DenL K G ds vs
def DenL (K:PySem.W.Frag) (G:Hp):List D->List V->Prop
  | [],vs=>vs=[]
  | d::ds,vs=>∃ v r,vs=v::r/\Den K G d v/\DenL K G ds r
end
theorem Same.seqT {K:PySem.W.Frag} {H H':Hp} {a:Addr} {xs:List V} (e:Same H H') (h:SqT K H a xs):SqT K H' a xs:=by
  rcases h with (h | ⟨o,h⟩) | h
  · exact .inl (.inl (e _ _ h))
  · exact .inl (.inr ⟨o,e _ _ h⟩)
  · exact .inr h
section
variable {K:PySem.W.Frag} {G G':Hp}
mutual
theorem Den.mono (e:Same G G'):(d:D)->(v:V)->Den K G d v->Den K G' d v
  | .non,_,h=>h
  | .bl _,_,h=>h
  | .int _,_,h=>h
  | .str _,_,h=>h
  | .tup ds,_,h=>by
    unfold Den at h ⊢
    obtain ⟨a,vs,e1,s,l⟩:=h
    exact ⟨a,vs,e1,Same.seqT e s,DenL.mono e ds vs l⟩
  | .lst ds,_,h=>by
    unfold Den at h ⊢
    obtain ⟨a,vs,e1,s,l⟩:=h
    exact ⟨a,vs,e1,e.seq s,DenL.mono e ds vs l⟩
theorem DenL.mono (e:Same G G'):(ds:List D)->(vs:List V)->DenL K G ds vs->DenL K G' ds vs
  | [],_,h=>by unfold DenL at h ⊢; exact h
  | d::ds,vs,h=>by
    unfold DenL at h ⊢
    obtain ⟨v,r,e1,h1,h2⟩:=h
    exact ⟨v,r,e1,Den.mono e d v h1,DenL.mono e ds r h2⟩
end
theorem Den.up {d:D} {v:V} (h:Den K G d v) (e:Same G G'):Den K G' d v:=Den.mono e d v h
theorem DenL.up {ds:List D} {vs:List V} (h:DenL K G ds vs) (e:Same G G'):DenL K G' ds vs:=DenL.mono e ds vs h
theorem denL_nil {vs:List V}:DenL K G [] vs↔vs=[]:=by unfold DenL; exact Iff.rfl
theorem denL_cons {d:D} {ds:List D} {vs:List V}:DenL K G (d::ds) vs↔∃ v r,vs=v::r/\Den K G d v/\DenL K G ds r:=by
  constructor
  · intro h; unfold DenL at h; exact h
  · intro h; unfold DenL; exact h
theorem den_tup {ds:List D} {v:V}:Den K G (.tup ds) v↔∃ a vs,v=.ref a/\SqT K G a vs/\DenL K G ds vs:=by
  constructor
  · intro h; unfold Den at h; exact h
  · intro h; unfold Den; exact h
theorem den_lst {ds:List D} {v:V}:Den K G (.lst ds) v↔∃ a vs,v=.ref a/\SqL K G a vs/\DenL K G ds vs:=by
  constructor
  · intro h; unfold Den at h; exact h
  · intro h; unfold Den; exact h
theorem DenL.one {d:D} {v:V} (h:Den K G d v):DenL K G [d] [v]:=denL_cons.mpr ⟨v,[],rfl,h,denL_nil.mpr rfl⟩
theorem DenL.length:∀ {ds:List D} {vs:List V},DenL K G ds vs->ds.length=vs.length
  | [],vs,h=>by rw [denL_nil.mp h]; rfl
  | d::ds,vs,h=>by
    obtain ⟨v,r,rfl,_,h2⟩:=denL_cons.mp h
    simp [DenL.length h2]
theorem DenL.get:∀ {ds:List D} {vs:List V} {i:Nat} {d:D},DenL K G ds vs->ds[i]?=some d->∃ v,vs[i]?=some v/\Den K G d v
  | [],_,_,_,_,e=>by simp at e
  | d::ds,vs,0,x,h,e=>by
    obtain ⟨v,r,rfl,h1,_⟩:=denL_cons.mp h
    simp at e; subst e
    exact ⟨v,rfl,h1⟩
  | d::ds,vs,i + 1,x,h,e=>by
    obtain ⟨v,r,rfl,_,h2⟩:=denL_cons.mp h
    obtain ⟨u,e1,e2⟩:=DenL.get (i:=i) (d:=x) h2 (by simpa using e)
    exact ⟨u,by simpa using e1,e2⟩
theorem DenL.append:∀ {ds es:List D} {vs us:List V},DenL K G ds vs->DenL K G es us->DenL K G (ds++es) (vs++us)
  | [],_,vs,_,h,h'=>by rw [denL_nil.mp h]; exact h'
  | d::ds,es,vs,us,h,h'=>by
    obtain ⟨v,r,rfl,h1,h2⟩:=denL_cons.mp h
    exact denL_cons.mpr ⟨v,r++us,rfl,h1,DenL.append h2 h'⟩
theorem DenL.take:∀ {ds:List D} {vs:List V} (n:Nat),DenL K G ds vs->DenL K G (ds.take n) (vs.take n)
  | _,_,0,_=>by rw [List.take_zero,List.take_zero]; exact denL_nil.mpr rfl
  | [],vs,n + 1,h=>by rw [denL_nil.mp h]; exact denL_nil.mpr (by simp)
  | d::ds,vs,n + 1,h=>by
    obtain ⟨v,r,rfl,h1,h2⟩:=denL_cons.mp h
    exact denL_cons.mpr ⟨v,r.take n,rfl,h1,DenL.take n h2⟩
theorem DenL.drop:∀ {ds:List D} {vs:List V} (n:Nat),DenL K G ds vs->DenL K G (ds.drop n) (vs.drop n)
  | _,_,0,h=>h
  | [],vs,n + 1,h=>by rw [denL_nil.mp h]; exact denL_nil.mpr (by simp)
  | d::ds,vs,n + 1,h=>by
    obtain ⟨v,r,rfl,h1,h2⟩:=denL_cons.mp h
    exact DenL.drop n h2
end
def CodeAt (c:Addr) (q:Str):Heap->Prop:=λ h=>h.CodeRec (.ref c) q
def TblOk (G:Hp) (ps:Array Value):Prop:=TriplesOk ps.toList/\∀ pos v,codeAmong pos ps.toList=some v->∃ c q,v=.ref c/\G c=some (.ext (CodeAt c q))
def isTbl:HO->Bool
  | .tbl _=>true
  | _=>false
theorem TblOk.mono {G G':Hp} {ps:Array Value} (t:TblOk G ps) (h:Same G G'):TblOk G' ps :=
  ⟨t.1,λ pos v e=>let ⟨c,q,e1,e2⟩:=t.2 pos v e; ⟨c,q,e1,h _ _ e2⟩⟩
structure Gro (H H':Hp):Prop where
  nt:∀ a o,H a=some o->isTbl o=false->H' a=some o
  te:∀ a ps,H a=some (.tbl ps)->∃ ps',H' a=some (.tbl ps')
section
variable {H H' H'':Hp} {K:PySem.W.Frag}
theorem Gro.of (e:Same H H'):Gro H H':=⟨λ a o h _=>e a o h,λ a ps h=>⟨ps,e _ _ h⟩⟩
theorem Gro.refl:Gro H H:=.of (Same.refl _)
theorem Gro.trans (a:Gro H H') (b:Gro H' H''):Gro H H'':=⟨λ c o h n=>b.nt c o (a.nt c o h n) n,λ c ps h=>by
  obtain ⟨p1,h1⟩:=a.te c ps h
  exact b.te c p1 h1⟩
theorem Gro.lst (g:Gro H H') {a:Addr} {vs:List V} (h:H a=some (.lst vs)):H' a=some (.lst vs):=g.nt _ _ h rfl
theorem Gro.rd (g:Gro H H') {a:Addr} {u:HO} (n:isTbl u=false) (h:Rd H a u):Rd H' a u:=by
  rcases h with h | ⟨o,h⟩
  · exact .inl (g.nt _ _ h n)
  · exact .inr ⟨o,g.nt _ _ h rfl⟩
theorem Gro.seq (g:Gro H H') {a:Addr} {xs:List V} (h:SqL K H a xs):SqL K H' a xs:=by
  rcases h with h | h
  · exact .inl (g.rd rfl h)
  · exact .inr h
theorem Gro.ne (g:Gro H H') {a:Addr} (h:H a≠none):H' a≠none:=by
  cases q:H a with
  | none=>exact absurd q h
  | some o =>
    cases z:isTbl o with
    | false=>rw [g.nt a o q z]; exact λ w=>nomatch w
    | true =>
      cases o <;> first | cases z | skip
      obtain ⟨ps',e⟩:=g.te a _ q
      rw [e]; exact λ w=>nomatch w
theorem Gro.free (g:Gro H H') {a:Addr} (h:H' a=none):H a=none:=by
  cases q:H a with
  | none=>rfl
  | some o=>exact absurd h (g.ne (by rw [q]; exact λ w=>nomatch w))
end
def Tbs (H H' G':Hp):Prop:=∀ a ps,H a=some (.tbl ps)->∃ ps',H' a=some (.tbl ps')/\∀ Gx,Same G' Gx->TblOk Gx ps->TblOk Gx ps'
theorem Tbs.of {H H' G':Hp} (e:Same H H'):Tbs H H' G':=λ a ps h=>⟨ps,e _ _ h,λ _ _ t=>t⟩
theorem Tbs.trans {H H1 G1 H2 G2:Hp} (a:Tbs H H1 G1) (b:Tbs H1 H2 G2) (g:Same G1 G2):Tbs H H2 G2:=λ c ps h=>by
  obtain ⟨p1,h1,t1⟩:=a c ps h
  obtain ⟨p2,h2,t2⟩:=b c p1 h1
  exact ⟨p2,h2,λ Gx e t=>t2 Gx e (t1 Gx (g.trans e) t)⟩
structure Ext (H G H' G':Hp):Prop where
  gg:Same G G'
  gh:Same G' H'
  hh:Gro H H'
  fr:∀ a,H a≠none->G' a=G a
  tb:Tbs H H' G'
theorem Ext.refl {H G:Hp} (h:Same G H):Ext H G H G:=⟨Same.refl _,h,Gro.refl,λ _ _=>rfl,.of (Same.refl _)⟩
theorem some_ne {α:Type} {o:Option α} {x:α} (h:o=some x):o≠none:=by rw [h]; exact λ z=>nomatch z
theorem Ext.trans {H G H1 G1 H2 G2:Hp} (a:Ext H G H1 G1) (b:Ext H1 G1 H2 G2):Ext H G H2 G2 :=
  ⟨a.gg.trans b.gg,b.gh,a.hh.trans b.hh,λ c h=>(b.fr c (a.hh.ne h)).trans (a.fr c h),a.tb.trans b.tb b.gg⟩
theorem same_upd {H:Hp} {p:Addr} (h:H p=none) (o:HO):Same H (upd H p o):=λ b u q=>by rw [upd_ne (ne_of_none q h)]; exact q
theorem Ext.alloc {H G:Hp} {p:Addr} (h:Same G H) (hp:H p=none) (o:HO):Ext H G (upd H p o) (upd G p o) where
  gg:=same_upd (h.free hp) o
  gh:=λ b u q=>by
    by_cases e:b=p
    · subst e; rw [upd_same] at q ⊢; exact q
    · rw [upd_ne e] at q ⊢; exact h b u q
  hh:=.of (same_upd hp o)
  fr:=λ a ha=>upd_ne (λ e=>ha (by rw [e]; exact hp))
  tb:=.of (same_upd hp o)
theorem Ext.own {H G:Hp} {p:Addr} (h:Same G H) (hp:H p=none) (o:HO):Ext H G (upd H p o) G :=
  ⟨Same.refl _,h.trans (same_upd hp o),.of (same_upd hp o),λ _ _=>rfl,.of (same_upd hp o)⟩
theorem Ext.take {H G H' G':Hp} {p:Addr} {o:HO} (e:Ext H G H' G') (hp:H p=none) (h':H' p=some o) (g':G' p=none):Ext H G H' (upd G' p o) where
  gg:=e.gg.trans (same_upd g' o)
  gh:=λ b u q=>by
    by_cases z:b=p
    · subst z; rw [upd_same] at q; rw [h']; exact q
    · rw [upd_ne z] at q; exact e.gh b u q
  hh:=e.hh
  fr:=λ a ha=>(upd_ne (λ z=>ha (by rw [z]; exact hp))).trans (e.fr a ha)
  tb:=λ a ps h=>let ⟨ps',h1,t⟩:=e.tb a ps h; ⟨ps',h1,λ Gx q z=>t Gx ((same_upd g' o).trans q) z⟩
mutual
def hk:Nat->D->Bool
  | _,.int _=>true
  | _,.str _=>true
  | _,.non=>true
  | n + 1,.tup ds=>hkL n ds
  | _,_=>false
def hkL:Nat->List D->Bool
  | _,[]=>true
  | n,d::ds=>hk n d&&hkL n ds
end
mutual
def hD (w:World):D->Int
  | .int i=>hashInt i
  | .str x=>hashStr w x
  | .non=>4238894112
  | .tup ds=>reduceHash (Builtin.Tuple.tupleHashOf (hDL w ds))
  | _=>0
def hDL (w:World):List D->List Int
  | []=>[]
  | d::ds=>hD w d::hDL w ds
end
def EntsOk (w:World):List (D×D)->List (V×V)->List DictEntry->Prop
  | [],[],[]=>True
  | p::ps,q::qs,e::es=>(e.hash=hD w p.1/\RelV q.1 e.key/\RelV q.2 e.val)/\EntsOk w ps qs es
  | _,_,_=>False
def DenK (K:PySem.W.Frag) (G:Hp):List (D×D)->List (V×V)->Prop
  | [],[]=>True
  | p::ps,q::qs=>(Den K G p.1 q.1/\Den K G p.2 q.2)/\DenK K G ps qs
  | _,_=>False
theorem DenK.up {K:PySem.W.Frag} {G G':Hp} (e:Same G G'):∀ {kvs:List (D×D)} {es:List (V×V)},DenK K G kvs es->DenK K G' kvs es
  | [],[],_=>trivial
  | _::_,_::_,⟨⟨a,b⟩,r⟩=>⟨⟨a.up e,b.up e⟩,r.up e⟩
  | [],_::_,h=>h.elim
  | _::_,[],h=>h.elim
def KOk (kvs:List (D×D)):Prop:=(kvs.map (·.1)).Nodup/\∀ p∈kvs,hk 8 p.1=true
def DctAt (w:World) (a:Addr) (kvs:List (D×D)) (es:List (V×V)):Heap->Prop:=λ h=>(a == sysModules)=false/\KOk kvs/\kvs.length<=1000000 /\
  ∃ o xs ep,h.get? a=some o/\o.ExactDict/\o.data=.dict xs ep/\EntsOk w kvs es xs.toList
inductive Sl where
  | un | val (d:D) | own (xs:List D) | exc (c:Str) | fn (a:Addr) (φ:Hp->Prop) | par (a:Addr) (xs:List D) | dic (w:World) (kvs:List (D×D)) | vdi (w:World) (kvs:List (D×D))
def Sl.mu:Sl->Bool
  | .own _=>true
  | .par _ _=>true
  | .dic _ _=>true
  | _=>false
def Sl.cont:Sl->Option (List D)
  | .own xs=>some xs
  | .par _ xs=>some xs
  | _=>none
def Sl.put (x:Sl) (ys:List D):Sl:=match x with
  | .own _=>.own ys
  | .par a _=>.par a ys
  | y=>y
def ExcIs (a C:Addr):Heap->Prop:=λ h=>∃ o,h.get? a=some o/\o.cls=.ref C
def XcIs (K:PySem.W.Frag) (G:Hp) (c:Str) (v:V):Prop:=∃ a C,v=.ref a/\PySem.W.nsIn K mainGlobals c=some (some (.ref C))/\G a=some (.ext (ExcIs a C))
theorem XcIs.up {K:PySem.W.Frag} {G G':Hp} {c:Str} {v:V} (h:XcIs K G c v) (e:Same G G'):XcIs K G' c v:=by
  obtain ⟨a,C,e1,e2,e3⟩:=h
  exact ⟨a,C,e1,e2,e _ _ e3⟩
abbrev Ga:=List Sl
def LAMS:List Str:=["truths","renamed","telling","judged"]
def TabIn (K:PySem.W.Frag) (H G:Hp):Prop:=∀ x∈LAMS,∀ c P,PySem.W.tabIn K x=some (c,P)->G P=none/\∃ ps,H P=some (.tbl ps)/\TblOk G ps
theorem Ext.tab {K:PySem.W.Frag} {H G H' G':Hp} (e:Ext H G H' G') (t:TabIn K H G):TabIn K H' G':=λ x hx c P h=>by
  obtain ⟨g,ps,h1,h2⟩:=t x hx c P h
  obtain ⟨ps',h3,h4⟩:=e.tb P ps h1
  exact ⟨(e.fr P (some_ne h1)).trans g,ps',h3,h4 _ (Same.refl _) (h2.mono e.gg)⟩
theorem TabIn.updL {K:PySem.W.Frag} {H G:Hp} {a:Addr} {vs us:List V} (ha:H a=some (.lst vs)) (t:TabIn K H G):TabIn K (upd H a (.lst us)) G:=λ x hx c P h=>by
  obtain ⟨g,ps,h1,h2⟩:=t x hx c P h
  exact ⟨g,ps,by rw [upd_ne (λ e=>by rw [e,ha] at h1; cases h1)]; exact h1,h2⟩
theorem TabIn.updG {K:PySem.W.Frag} {H G:Hp} {a:Addr} {vs:List V} {o:HO} (ha:H a=some (.lst vs)) (ga:G a=none) (t:TabIn K H G):TabIn K H (upd G a o):=λ x hx c P h=>by
  obtain ⟨g,ps,h1,h2⟩:=t x hx c P h
  exact ⟨by rw [upd_ne (λ e=>by rw [e,ha] at h1; cases h1)]; exact g,ps,h1,h2.mono (same_upd ga o)⟩
def SlOk (K:PySem.W.Frag) (H₀ H G:Hp):Sl->Option (Option V)->Prop
  | .un,_=>True
  | .val d,o=>∃ v,o=some (some v)/\Den K G d v
  | .own xs,o=>∃ a vs,o=some (some (.ref a))/\H a=some (.lst vs)/\H₀ a=none/\G a=none/\DenL K G xs vs
  | .exc c,o=>∃ v,o=some (some v)/\XcIs K G c v
  | .fn a φ,o=>o=some (some (.ref a))/\φ G/\∀ G1 G2,Same G1 G2->φ G1->φ G2
  | .par a xs,o=>o=some (some (.ref a))/\∃ vs,H a=some (.lst vs)/\H₀ a=none/\G a=none/\DenL K G xs vs
  | .dic w kvs,o=>∃ a es,o=some (some (.ref a))/\H a=some (.ext (DctAt w a kvs es))/\H₀ a=none/\G a=none/\DenK K G kvs es
  | .vdi w kvs,o=>∃ a es,o=some (some (.ref a))/\H a=some (.ext (DctAt w a kvs es))/\H₀ a≠none/\DenK K G kvs es
structure Rep (K:PySem.W.Frag) (H₀ G₀:Hp) (Γ:Ga) (σ:L2.St) (H G:Hp):Prop where
  ex:Ext H₀ G₀ H G
  tab:TabIn K H G
  ln:Γ.length=σ.length
  all:∀ (i:Nat) x,Γ[i]?=some x->SlOk K H₀ H G x σ[i]?
  di:∀ (i j:Nat) x y a,Γ[i]?=some x->Γ[j]?=some y->x.mu=true->y.mu=true->σ[i]?=some (some (V.ref a))->σ[j]?=some (some (V.ref a))->i=j
section
variable {K:PySem.W.Frag} {H₀ G₀ H G H' G':Hp} {Γ:Ga} {σ:L2.St}
theorem Rep.gh (R:Rep K H₀ G₀ Γ σ H G):Same G H:=R.ex.gh
theorem Rep.vl (R:Rep K H₀ G₀ Γ σ H G) (i:Nat) (d:D) (h:Γ[i]?=some (.val d)):∃ v,σ[i]?=some (some v)/\Den K G d v:=R.all i _ h
theorem Rep.ow (R:Rep K H₀ G₀ Γ σ H G) (i:Nat) (xs:List D) (h:Γ[i]?=some (.own xs)):∃ a vs,σ[i]?=some (some (.ref a))/\H a=some (.lst vs)/\H₀ a=none/\G a=none/\DenL K G xs vs:=R.all i _ h
theorem Rep.mo (R:Rep K H₀ G₀ Γ σ H G) {i:Nat} {x:Sl} {xs:List D} (h:Γ[i]?=some x) (hc:x.cont=some xs):∃ a vs,σ[i]?=some (some (.ref a))/\H a=some (.lst vs)/\H₀ a=none/\G a=none/\DenL K G xs vs:=by
  have q:=R.all i x h
  cases x <;> first | cases hc | skip
  · exact q
  · obtain ⟨q1,vs,q2⟩:=q
    exact ⟨_,vs,q1,q2⟩
theorem Sl.mu_of {x:Sl} {xs:List D} (h:x.cont=some xs):x.mu=true:=by cases x <;> first | rfl | cases h
theorem Rep.at (R:Rep K H₀ G₀ Γ σ H G) {i:Nat} {x:Sl} (h:Γ[i]?=some x) (hm:x.mu=true):∃ a o,σ[i]?=some (some (.ref a))/\H a=some o/\H₀ a=none/\G a=none:=by
  have q:=R.all i x h
  cases x <;> first | cases hm | skip
  · obtain ⟨a,vs,e1,e2,e3,e4,_⟩:=q
    exact ⟨a,_,e1,e2,e3,e4⟩
  · obtain ⟨q1,vs,e2,e3,e4,_⟩:=q
    exact ⟨_,_,q1,e2,e3,e4⟩
  · obtain ⟨a,vs,e1,e2,e3,e4,_⟩:=q
    exact ⟨a,_,e1,e2,e3,e4⟩
theorem SlOk.after {x:Sl} {o:Option (Option V)} (h:SlOk K H₀ H G x o) (e:Ext H G H' G'):SlOk K H₀ H' G' x o:=by
  cases x with
  | un=>trivial
  | val d=>obtain ⟨v,e1,e2⟩:=h; exact ⟨v,e1,e2.up e.gg⟩
  | own xs =>
    obtain ⟨a,vs,e1,e2,e3,e4,e5⟩:=h
    exact ⟨a,vs,e1,e.hh.lst e2,e3,(e.fr a (some_ne e2)).trans e4,e5.up e.gg⟩
  | exc c=>obtain ⟨v,e1,e2⟩:=h; exact ⟨v,e1,e2.up e.gg⟩
  | fn a φ=>exact ⟨h.1,h.2.2 _ _ e.gg h.2.1,h.2.2⟩
  | par a xs =>
    obtain ⟨e1,vs,e2,e3,e4,e5⟩:=h
    exact ⟨e1,vs,e.hh.lst e2,e3,(e.fr a (some_ne e2)).trans e4,e5.up e.gg⟩
  | dic w kvs =>
    obtain ⟨a,es,e1,e2,e3,e4,e5⟩:=h
    exact ⟨a,es,e1,e.hh.nt _ _ e2 rfl,e3,(e.fr a (some_ne e2)).trans e4,e5.up e.gg⟩
  | vdi w kvs =>
    obtain ⟨a,es,e1,e2,e3,e5⟩:=h
    exact ⟨a,es,e1,e.hh.nt _ _ e2 rfl,e3,e5.up e.gg⟩
theorem Rep.after (R:Rep K H₀ G₀ Γ σ H G) (e:Ext H G H' G'):Rep K H₀ G₀ Γ σ H' G':=⟨R.ex.trans e,e.tab R.tab,R.ln,λ i x h=>(R.all i x h).after e,R.di⟩
theorem get_set_self {α:Type} {l:List α} {i:Nat} {x y:α} (h:(l.set i x)[i]?=some y):y=x:=by
  rw [List.getElem?_set] at h
  simp at h
  exact h.2.symm
theorem set_at {α:Type} {l:List α} {i j:Nat} {x y:α} (h:(l.set i x)[j]?=some y):(j=i/\y=x/\i < l.length)∨(i≠j/\l[j]?=some y):=by
  by_cases e:i=j
  · subst e
    have hi:=(List.getElem?_eq_some_iff.mp h).1
    rw [List.length_set] at hi
    exact .inl ⟨rfl,get_set_self h,hi⟩
  · rw [List.getElem?_set_ne e] at h
    exact .inr ⟨e,h⟩
theorem Rep.putS (R:Rep K H₀ G₀ Γ σ H G) (i:Nat) {x:Sl} {o:Option V} (h:SlOk K H₀ H G x (some o))
    (nw:x.mu=true->∀ (j:Nat) y a,j≠i->Γ[j]?=some y->y.mu=true->o=some (V.ref a)->σ[j]?≠some (some (V.ref a))):Rep K H₀ G₀ (Γ.set i x) (σ.set i o) H G where
  ex:=R.ex
  tab:=R.tab
  ln:=by rw [List.length_set,List.length_set]; exact R.ln
  all:=λ j y q=>by
    rcases set_at q with ⟨rfl,rfl,hi⟩ | ⟨ne,q⟩
    · rw [List.getElem?_set_self (by rw [<- R.ln]; exact hi)]; exact h
    · rw [List.getElem?_set_ne ne]; exact R.all j y q
  di:=λ j k y z a q1 q2 m1 m2 s1 s2=>by
    rcases set_at q1 with ⟨e1,e2,hi⟩ | ⟨n1,r1⟩
    · rcases set_at q2 with ⟨e3,e4,_⟩ | ⟨n2,r2⟩
      · exact e1.trans e3.symm
      · subst e1 e2
        rw [List.getElem?_set_ne n2] at s2
        rw [List.getElem?_set_self (by rw [<- R.ln]; exact hi)] at s1
        exact absurd s2 (nw m1 k z a (Ne.symm n2) r2 m2 (Option.some.inj s1))
    · rw [List.getElem?_set_ne n1] at s1
      rcases set_at q2 with ⟨e3,e4,hi⟩ | ⟨n2,r2⟩
      · subst e3 e4
        rw [List.getElem?_set_self (by rw [<- R.ln]; exact hi)] at s2
        exact absurd s1 (nw m2 j y a (Ne.symm n1) r1 m1 (Option.some.inj s2))
      · rw [List.getElem?_set_ne n2] at s2
        exact R.di j k y z a r1 r2 m1 m2 s1 s2
theorem Rep.setV (R:Rep K H₀ G₀ Γ σ H G) (i:Nat) {d:D} {v:V} (h:Den K G d v):Rep K H₀ G₀ (Γ.set i (.val d)) (σ.set i (some v)) H G :=
  R.putS i (x:=.val d) ⟨v,rfl,h⟩ λ z=>nomatch z
theorem Rep.setO (R:Rep K H₀ G₀ Γ σ H G) (i:Nat) {xs:List D} {a:Addr} {vs:List V} (h:H a=some (.lst vs)) (h0:H₀ a=none) (hg:G a=none) (hd:DenL K G xs vs)
    (nw:∀ (j:Nat) y,j≠i->Γ[j]?=some y->y.mu=true->σ[j]?≠some (some (.ref a))):Rep K H₀ G₀ (Γ.set i (.own xs)) (σ.set i (some (.ref a))) H G :=
  R.putS i (x:=.own xs) ⟨a,vs,rfl,h,h0,hg,hd⟩ λ _ j y b hj hy hm e=>by cases e; exact nw j y hj hy hm
theorem Rep.mutG (R:Rep K H₀ G₀ Γ σ H G) {i:Nat} {x:Sl} {xs ys:List D} {a:Addr} {us:List V} (hi:Γ[i]?=some x) (hx:x.cont=some xs) (hs:σ[i]?=some (some (.ref a))) (hd:DenL K G ys us) :
    Rep K H₀ G₀ (Γ.set i (x.put ys)) σ (upd H a (.lst us)) G:=by
  obtain ⟨a',vs,e1,e2,e3,e4,e5⟩:=R.mo hi hx
  rw [hs] at e1
  cases e1
  have gne:∀ b o,G b=some o->b≠a:=λ b o q z=>by rw [z,e4] at q; cases q
  have hne:∀ b o,H₀ b=some o->b≠a:=λ b o q z=>by rw [z,e3] at q; cases q
  have pm:(x.put ys).mu=true:=by cases x <;> first | rfl | cases hx
  have tbl:∀ b ps,H₀ b=some (.tbl ps)->∃ ps',upd H a (.lst us) b=some (.tbl ps')/\∀ Gx,Same G Gx->TblOk Gx ps->TblOk Gx ps':=λ b ps q=>by
    obtain ⟨ps',h1,h2⟩:=R.ex.tb b ps q
    exact ⟨ps',by rw [upd_ne (hne b _ q)]; exact h1,h2⟩
  refine ⟨⟨R.ex.gg,λ b o q=>?_,⟨λ b o q n=>?_,λ b ps q=>let ⟨ps',h,_⟩:=tbl b ps q; ⟨ps',h⟩⟩,R.ex.fr,tbl⟩,R.tab.updL e2,by rw [List.length_set]; exact R.ln,λ j y q=>?_,λ j k y z b q1 q2 m1 m2 s1 s2=>?_⟩
  · rw [upd_ne (gne b o q)]; exact R.ex.gh b o q
  · rw [upd_ne (hne b o q)]; exact R.ex.hh.nt b o q n
  · rcases set_at q with ⟨rfl,rfl,_⟩ | ⟨ne,q⟩
    · cases x with
      | own zs=>exact ⟨a,us,hs,upd_same,e3,e4,hd⟩
      | par b zs =>
        have:=(R.all j _ hi).1
        rw [hs] at this
        cases this
        exact ⟨hs,us,upd_same,e3,e4,hd⟩
      | _=>cases hx
    · have old:=R.all j y q
      have nb:∀ b,y.mu=true->σ[j]?=some (some (V.ref b))->b≠a:=λ b hm hb z=>by
        subst z
        exact ne (R.di i j _ _ b hi q (Sl.mu_of hx) hm hs hb)
      cases y with
      | un=>trivial
      | val d=>exact old
      | exc c=>exact old
      | fn c φ=>exact old
      | own zs =>
        obtain ⟨b,ws,f1,f2,f3,f4,f5⟩:=old
        exact ⟨b,ws,f1,by rw [upd_ne (nb b rfl f1)]; exact f2,f3,f4,f5⟩
      | par b zs =>
        obtain ⟨f1,ws,f2,f3,f4,f5⟩:=old
        exact ⟨f1,ws,by rw [upd_ne (nb b rfl f1)]; exact f2,f3,f4,f5⟩
      | dic w kvs =>
        obtain ⟨b,ws,f1,f2,f3,f4,f5⟩:=old
        exact ⟨b,ws,f1,by rw [upd_ne (nb b rfl f1)]; exact f2,f3,f4,f5⟩
      | vdi w kvs =>
        obtain ⟨b,ws,f1,f2,f3,f5⟩:=old
        exact ⟨b,ws,f1,by rw [upd_ne (λ z=>f3 (by rw [z]; exact e3))]; exact f2,f3,f5⟩
  · have o1:∀ (j:Nat) y,(Γ.set i (x.put ys))[j]?=some y->y.mu=true->∃ y',Γ[j]?=some y'/\y'.mu=true:=λ j y q hm=>by
      rcases set_at q with ⟨rfl,rfl,_⟩ | ⟨ne,q⟩
      · exact ⟨_,hi,Sl.mu_of hx⟩
      · exact ⟨_,q,hm⟩
    obtain ⟨z1,r1,r1'⟩:=o1 j y q1 m1
    obtain ⟨z2,r2,r2'⟩:=o1 k z q2 m2
    exact R.di j k _ _ b r1 r2 r1' r2' s1 s2
theorem Rep.mut (R:Rep K H₀ G₀ Γ σ H G) {i:Nat} {xs ys:List D} {a:Addr} {us:List V} (hi:Γ[i]?=some (.own xs)) (hs:σ[i]?=some (some (.ref a))) (hd:DenL K G ys us) :
    Rep K H₀ G₀ (Γ.set i (.own ys)) σ (upd H a (.lst us)) G:=R.mutG hi rfl hs hd
theorem Rep.weak (R:Rep K H₀ G₀ Γ σ H G) {Γ':Ga} (hl:Γ'.length=Γ.length) (h:∀ (i:Nat) x,Γ'[i]?=some x->x=.un∨Γ[i]?=some x):Rep K H₀ G₀ Γ' σ H G where
  ex:=R.ex
  tab:=R.tab
  ln:=hl.trans R.ln
  all:=λ i x q=>by
    rcases h i _ q with z | z
    · subst z; trivial
    · exact R.all i x z
  di:=λ i j x y a q1 q2 m1 m2=>by
    rcases h i _ q1 with z | z
    · subst z; cases m1
    · rcases h j _ q2 with z' | z'
      · subst z'; cases m2
      · exact R.di i j x y a z z' m1 m2
end
end Wy


namespace Wy
open PySem PySem.Spec PyProof.Rows L2
theorem nr {α:Type} {a b:α} (h:a=b):a=b:=h
inductive R (α:Type) where
  | ok (a:α) | ex (c:Str) | no
namespace R
variable {α β:Type}
def bind (x:R α) (f:α->R β):R β:=match x with
  | .ok a=>f a
  | .ex c=>.ex c
  | .no=>.no
def want (x:R α) (E:Str->Prop) (P:α->Prop):Prop:=match x with
  | .ok a=>P a
  | .ex c=>E c
  | .no=>False
def ofO (o:Option α):R α:=match o with
  | some a=>.ok a
  | none=>.no
@[simp] theorem bind_ok (a:α) (f:α->R β):(R.ok a).bind f=f a:=nr rfl
@[simp] theorem bind_no (f:α->R β):(R.no:R α).bind f=.no:=nr rfl
@[simp] theorem ofO_some (a:α):ofO (some a)=.ok a:=nr rfl
theorem _root_.Wy.wImp {x:R α} {E E':Str->Prop} {P P':α->Prop} (w:x.want E P) (he:∀ c,E c->E' c) (h:∀ a,P a->P' a):x.want E' P':=by
  cases x with
  | ok a=>exact h a w
  | ex c=>exact he c w
  | no=>exact w
theorem _root_.Wy.wStep {x:R α} {f:α->R β} {E E':Str->Prop} {P:β->Prop} {P':α->Prop} (w:(x.bind f).want E P) (he:∀ c,E c->E' c) (h:∀ a,(f a).want E P->P' a):x.want E' P':=by
  cases x with
  | ok a=>exact h a w
  | ex c=>exact he c w
  | no=>exact w
theorem _root_.Wy.wOfO {o:Option α} {E:Str->Prop} {P:α->Prop} (w:(ofO o).want E P):∃ a,o=some a/\P a:=by
  cases o with
  | some a=>exact ⟨a,rfl,w⟩
  | none=>exact w.elim
theorem _root_.Wy.wOfOb {o:Option α} {f:α->R β} {E:Str->Prop} {P:β->Prop} (w:((ofO o).bind f).want E P):∃ a,o=some a/\(f a).want E P:=by
  cases o with
  | some a=>exact ⟨a,rfl,w⟩
  | none=>exact w.elim
end R
def R.calm {α:Type} (x:R α):R α:=match x with
  | .ex _=>.no
  | r=>r
theorem calm_ok {α:Type} {x:R α} {a:α} (h:x.calm=.ok a):x=.ok a:=by
  cases x with
  | ok b=>exact h
  | ex c=>cases h
  | no=>cases h
@[simp] theorem calm_of_ok {α:Type} (a:α):(R.ok a).calm=.ok a:=nr rfl
section
variable {K:PySem.W.Frag} {G:Hp}
theorem den_non:Den K G .non .non:=by unfold Den; rfl
theorem den_bl {b:Bool}:Den K G (.bl b) (.bl b):=by unfold Den; rfl
theorem den_int {i:Int}:Den K G (.int i) (.int i):=by unfold Den; rfl
theorem den_str {x:Str}:Den K G (.str x) (.str x):=by unfold Den; rfl
theorem den_nonE {v:V} (h:Den K G .non v):v=.non:=by unfold Den at h; exact h
theorem den_blE {b:Bool} {v:V} (h:Den K G (.bl b) v):v=.bl b:=by unfold Den at h; exact h
theorem den_intE {i:Int} {v:V} (h:Den K G (.int i) v):v=.int i:=by unfold Den at h; exact h
theorem den_strE {x:Str} {v:V} (h:Den K G (.str x) v):v=.str x:=by unfold Den at h; exact h
end
abbrev XP:=Str->L2.St->Hp->Hp->Prop
abbrev XP0:XP:=λ _ _ _ _=>False
def exAt (W:XP) (σ:L2.St) (H G:Hp):Str->Prop:=λ c=>∀ H' G',Ext H G H' G'->W c σ H' G'
theorem exAt.up {W:XP} {σ:L2.St} {H G H1 G1:Hp} {c:Str} (h:exAt W σ H G c) (e:Ext H G H1 G1):exAt W σ H1 G1 c:=λ H' G' e'=>h H' G' (e.trans e')
def Tells (K:PySem.W.Frag) (W:XP) (t:TE) (f:Ga->R D):Prop :=
  ∀ (H₀ G₀:Hp) (Γ:Ga) (σ:L2.St) (H G:Hp),Rep K H₀ G₀ Γ σ H G->∀ Q:VK,(f Γ).want (exAt W σ H G) (λ d=>∀ v H' G',Ext H G H' G'->Den K G' d v->Q v H')->t σ H Q
def EvD (X:Cx) (W:XP) (e:Expr) (f:Ga->R D):Prop:=∃ t,PE X e t/\Tells X.K W t f
def TellsL (K:PySem.W.Frag) (W:XP) (t:TA) (f:Ga->R (List D)):Prop :=
  ∀ (H₀ G₀:Hp) (Γ:Ga) (σ:L2.St) (H G:Hp),Rep K H₀ G₀ Γ σ H G->∀ Q:List V->Hp->Prop,(f Γ).want (exAt W σ H G) (λ ds=>∀ vs H' G',Ext H G H' G'->DenL K G' ds vs->Q vs H')->t σ H Q
def AvD (X:Cx) (W:XP) (es:List Expr) (f:Ga->R (List D)):Prop:=∃ t,PA X es t/\(∀ Γ ds,f Γ=.ok ds->ds.length=es.length)/\TellsL X.K W t f
def TellsT (K:PySem.W.Frag) (W:XP) (t:TT) (f:Ga->R Bool):Prop :=
  ∀ (H₀ G₀:Hp) (Γ:Ga) (σ:L2.St) (H G:Hp),Rep K H₀ G₀ Γ σ H G->∀ Q:Bool->Hp->Prop,(f Γ).want (exAt W σ H G) (λ b=>∀ H' G',Ext H G H' G'->Q b H')->t σ H Q
def TvD (X:Cx) (W:XP) (e:Expr) (f:Ga->R Bool):Prop:=∃ t,PT X e t/\TellsT X.K W t f
def WvD (X:Cx) (W:XP) (e:Expr) (f:Ga->R Bool):Prop:=∃ t,PW X e t/\TellsT X.K W t f
def SqP (K:PySem.W.Frag) (H G:Hp) (b:Bool) (a:Addr) (vs:List V):Prop:=match b with
  | true=>SqT K G a vs
  | false=>SqL K H a vs
theorem SqP.up {K:PySem.W.Frag} {H G H' G':Hp} {b:Bool} {a:Addr} {vs:List V} (h:SqP K H G b a vs) (e:Ext H G H' G'):SqP K H' G' b a vs:=by
  cases b with
  | true=>exact Same.seqT e.gg h
  | false=>exact e.hh.seq h
theorem SqP.or {K:PySem.W.Frag} {H G:Hp} {b:Bool} {a:Addr} {vs:List V} (h:SqP K H G b a vs) (g:Same G H):SqL K H a vs∨SqT K H a vs:=by
  cases b with
  | true=>exact .inr (Same.seqT g h)
  | false=>exact .inl h
def TellsS (K:PySem.W.Frag) (W:XP) (t:TE) (f:Ga->R (Bool×List D)):Prop :=
  ∀ (H₀ G₀:Hp) (Γ:Ga) (σ:L2.St) (H G:Hp),Rep K H₀ G₀ Γ σ H G->∀ Q:VK,(f Γ).want (exAt W σ H G) (λ p=>∀ a vs H' G',Ext H G H' G'->SqP K H' G' p.1 a vs->DenL K G' p.2 vs->Q (.ref a) H')->t σ H Q
def SqD (X:Cx) (W:XP) (e:Expr) (f:Ga->R (Bool×List D)):Prop:=∃ t,PE X e t/\TellsS X.K W t f
def TellsO (K:PySem.W.Frag) (W:XP) (t:TE) (f:Ga->R (List D)):Prop :=
  ∀ (H₀ G₀:Hp) (Γ:Ga) (σ:L2.St) (H G:Hp),Rep K H₀ G₀ Γ σ H G->∀ Q:VK,(f Γ).want (exAt W σ H G) (λ ds=>∀ p vs H' G',Ext H G H' G'->H p=none->H' p=some (.lst vs)->G' p=none->DenL K G' ds vs->Q (.ref p) H')->t σ H Q
def OwD (X:Cx) (W:XP) (e:Expr) (f:Ga->R (List D)):Prop:=∃ t,PE X e t/\TellsO X.K W t f
section
variable {X:Cx} {W:XP} {a b c e:Expr} {es rest:List Expr} {fa fb fc f:Ga->R D} {fl:Ga->R (List D)} {pos:Pos}
def eC (d:D):Ga->R D:=λ _=>.ok d
theorem eC_tells {v:V} {d:D} (h:∀ G,Den X.K G d v):Tells X.K W (tC v) (eC d):=λ _ _ _ _ H G R Q w=>w _ H G (.refl R.gh) (h G)
theorem ev_int {i j}:EvD X W (.Constant (.int i) j pos) (eC (.int i)):=⟨_,pe_int,eC_tells λ _=>den_int⟩
theorem ev_bl {i j}:EvD X W (.Constant (.bool i) j pos) (eC (.bl i)):=⟨_,pe_bl,eC_tells λ _=>den_bl⟩
theorem ev_str {i j}:EvD X W (.Constant (.str i) j pos) (eC (.str i)):=⟨_,pe_str,eC_tells λ _=>den_str⟩
def eV (i:Nat):Ga->R D:=λ Γ=>match Γ[i]? with
  | some (.val d)=>.ok d
  | _=>.no
theorem ev_var (i:Nat) {x:Str} (hN:X.N[i]?=some x:=by rfl) (hv:Vis X.env.scope x:=by first | exact Or.inl rfl | exact Or.inr (Or.inl rfl) | exact Or.inr (Or.inr rfl)) (hd:(x == ("__debug__":Str))=false:=by decide)
    (hcd:(x == ("__classdict__":Str))=false:=by decide):EvD X W (.Name x pos) (eV i) :=
  ⟨_,pe_var hN hv hd hcd,λ _ _ Γ _ H G R Q w=>by
    unfold eV at w
    split at w
    · rename_i d q
      obtain ⟨v,e1,e2⟩:=R.vl i d q
      exact ⟨v,e1,w v H G (.refl R.gh) e2⟩
    · exact w.elim⟩
def sV (i:Nat):Ga->R (Bool×List D):=λ Γ=>match Γ[i]? with
  | some (.val (.tup ds))=>.ok (true,ds)
  | some (.val (.lst ds))=>.ok (false,ds)
  | some (.own ds)=>.ok (false,ds)
  | some (.par _ ds)=>.ok (false,ds)
  | _=>.no
theorem sq_var (i:Nat) {x:Str} (hN:X.N[i]?=some x:=by rfl) (hv:Vis X.env.scope x:=by first | exact Or.inl rfl | exact Or.inr (Or.inl rfl) | exact Or.inr (Or.inr rfl)) (hd:(x == ("__debug__":Str))=false:=by decide)
    (hcd:(x == ("__classdict__":Str))=false:=by decide):SqD X W (.Name x pos) (sV i) :=
  ⟨_,pe_var hN hv hd hcd,λ _ _ Γ _ H G R Q w=>by
    unfold sV at w
    split at w
    · rename_i z
      obtain ⟨v,e1,e2⟩:=R.vl i _ z
      obtain ⟨a,vs,rfl,s,l⟩:=den_tup.mp e2
      exact ⟨_,e1,w a vs H G (.refl R.gh) s l⟩
    · rename_i z
      obtain ⟨v,e1,e2⟩:=R.vl i _ z
      obtain ⟨a,vs,rfl,s,l⟩:=den_lst.mp e2
      exact ⟨_,e1,w a vs H G (.refl R.gh) (R.gh.seq s) l⟩
    · rename_i z
      obtain ⟨a,vs,e1,e2,_,_,e5⟩:=R.ow i _ z
      exact ⟨_,e1,w a vs H G (.refl R.gh) (SqL.of e2) e5⟩
    · rename_i z
      obtain ⟨e1,vs,e2,_,_,e5⟩:=R.all i _ z
      exact ⟨_,e1,w _ vs H G (.refl R.gh) (SqL.of e2) e5⟩
    · exact w.elim⟩
def seqOf:D->Option (Bool×List D)
  | .tup ds=>some (true,ds)
  | .lst ds=>some (false,ds)
  | _=>none
def sE (f:Ga->R D):Ga->R (Bool×List D):=λ Γ=>(f Γ).bind λ d=>.ofO (seqOf d)
theorem sq_ev (h:EvD X W e f):SqD X W e (sE f):=by
  obtain ⟨t,p,q⟩:=h
  refine ⟨t,p,λ H₀ G₀ Γ σ H G R Q w=>?_⟩
  refine q _ _ _ _ _ _ R _ (wStep w (λ _ h=>h) λ d w v H' G' E1 d1=>?_)
  obtain ⟨⟨b,ds⟩,e2,w⟩:=wOfO w
  cases d with
  | tup xs =>
    cases e2
    obtain ⟨a,vs,rfl,s,l⟩:=den_tup.mp d1
    exact w a vs H' G' E1 s l
  | lst xs =>
    cases e2
    obtain ⟨a,vs,rfl,s,l⟩:=den_lst.mp d1
    exact w a vs H' G' E1 (E1.gh.seq s) l
  | _=>cases e2
def sO (fl:Ga->R (List D)):Ga->R (Bool×List D):=λ Γ=>(fl Γ).bind λ ds=>.ok (false,ds)
theorem sq_ow (h:OwD X W e fl):SqD X W e (sO fl):=by
  obtain ⟨t,p,q⟩:=h
  refine ⟨t,p,λ H₀ G₀ Γ σ H G R Q w=>?_⟩
  exact q _ _ _ _ _ _ R _ (wStep w (λ _ h=>h) λ ds w p vs H' G' E1 hp h' g' l=>w p vs H' G' E1 (SqL.of h') l)
def eO (fl:Ga->R (List D)):Ga->R D:=λ Γ=>(fl Γ).bind λ ds=>.ok (.lst ds)
theorem ev_ow (h:OwD X W e fl):EvD X W e (eO fl):=by
  obtain ⟨t,p,q⟩:=h
  refine ⟨t,p,λ H₀ G₀ Γ σ H G R Q w=>?_⟩
  refine q _ _ _ _ _ _ R _ (wStep w (λ _ h=>h) λ ds w p vs H' G' E1 hp h' g' l=>?_)
  exact w _ H' (upd G' p (.lst vs)) (E1.take hp h' g') (den_lst.mpr ⟨p,vs,rfl,SqL.of upd_same,l.up (same_upd g' _)⟩)
def aNil:Ga->R (List D):=λ _=>.ok []
def aCons (f:Ga->R D) (fl:Ga->R (List D)):Ga->R (List D):=λ Γ=>(f Γ).bind λ d=>(fl Γ).bind λ ds=>.ok (d::ds)
theorem av_nil:AvD X W [] aNil:=⟨_,pa_nil,λ _ _ e=>by cases e; rfl,λ _ _ _ _ H G R Q w=>w [] H G (.refl R.gh) (denL_nil.mpr rfl)⟩
theorem av_cons (ha:EvD X W e f) (hr:AvD X W es fl) (hs:starEach (e::es) X.env=(false,eval e X.env)::starEach es X.env:=by rfl):AvD X W (e::es) (aCons f fl):=by
  obtain ⟨t,p,q⟩:=ha
  obtain ⟨ts,ps,hl,qs⟩:=hr
  refine ⟨_,pa_cons p ps hs,λ Γ ds e'=>?_,λ H₀ G₀ Γ σ H G R Q w=>?_⟩
  · unfold aCons at e'
    cases h1:f Γ with
    | ok d =>
      rw [h1] at e'
      cases h2:fl Γ with
      | ok r =>
        rw [h2] at e'
        cases e'
        simp [hl Γ r h2]
      | _=>rw [h2] at e'; cases e'
    | _=>rw [h1] at e'; cases e'
  · refine q _ _ _ _ _ _ R _ (wStep w (λ _ h=>h) λ d w v H1 G1 E1 d1=>?_)
    refine qs _ _ _ _ _ _ (R.after E1) _ (wStep w (λ _ h=>h.up E1) λ ds w vs H2 G2 E2 d2=>?_)
    exact w _ H2 G2 (E1.trans E2) (denL_cons.mpr ⟨v,vs,rfl,d1.up E2.gg,d2⟩)
theorem small24 {n:Nat} (h:n<=1000):n<=sizeLine:=Nat.le_trans h (by decide)
theorem wLen {x:R (List D)} {n:Nat} {E:Str->Prop} {P:List D->Prop} (hl:∀ ds,x=.ok ds->ds.length=n) (w:x.want E P):x.want E (λ ds=>ds.length=n/\P ds):=by
  cases x with
  | ok ds=>exact ⟨hl ds rfl,w⟩
  | ex c=>exact w
  | no=>exact w
def eTup (fl:Ga->R (List D)):Ga->R D:=λ Γ=>(fl Γ).bind λ ds=>.ok (.tup ds)
theorem ev_tup {k:Nat} (h:AvD X W es fl) (hl:es.length<=1000:=by decide):EvD X W (.Tuple es k pos) (eTup fl):=by
  obtain ⟨t,p,hn,q⟩:=h
  refine ⟨_,pe_tup p,λ H₀ G₀ Γ σ H G R Q w=>?_⟩
  refine q _ _ _ _ _ _ R _ (wImp (wLen (hn Γ) (wStep w (λ _ h=>h) λ ds w=>w)) (λ _ h=>h) λ ds ⟨hd,w⟩ vs H1 G1 E1 d1=>?_)
  refine ⟨by rw [<- d1.length,hd]; exact small24 hl,λ p hp=>?_⟩
  have A:=Ext.alloc (o:=.tup vs) E1.gh hp
  exact w _ _ _ (E1.trans A) (den_tup.mpr ⟨p,vs,rfl,SqT.of upd_same,d1.up A.gg⟩)
theorem ow_lst (h:AvD X W es fl) (hl:es.length<=1000:=by decide):OwD X W (.List es pos) fl:=by
  obtain ⟨t,p,hn,q⟩:=h
  refine ⟨_,pe_lst p,λ H₀ G₀ Γ σ H G R Q w=>?_⟩
  refine q _ _ _ _ _ _ R _ (wImp (wLen (hn Γ) w) (λ _ h=>h) λ ds ⟨hd,w⟩ vs H1 G1 E1 d1=>?_)
  refine ⟨by rw [<- d1.length,hd]; exact small24 hl,λ p hp=>?_⟩
  exact w p vs _ G1 (E1.trans (.own E1.gh hp _)) (E1.hh.free hp) upd_same (E1.gh.free hp) d1
def OpD (X:Cx) (g:Value->Value->Sem Value) (F:D->D->Option D):Prop :=
  ∃ r,OpR X g r/\∀ (H G:Hp) (x y:V) (d1 d2 d:D),Same G H->Den X.K G d1 x->Den X.K G d2 y->F d1 d2=some d->∀ Q:VK,(∀ v H' G',Ext H G H' G'->Den X.K G' d v->Q v H')->r x y H Q
def e2 (F:D->D->Option D) (fa fb:Ga->R D):Ga->R D:=λ Γ=>(fa Γ).bind λ x=>(fb Γ).bind λ y=>.ofO (F x y)
theorem ev_op {op:Operator} {F:D->D->Option D} (ho:OpD X (binaryOp op) F) (ha:EvD X W a fa) (hb:EvD X W b fb):EvD X W (.BinOp a op b pos) (e2 F fa fb):=by
  obtain ⟨r,hr,ht⟩:=ho
  obtain ⟨ta,pa,qa⟩:=ha
  obtain ⟨tb,pb,qb⟩:=hb
  refine ⟨_,pe_op hr pa pb,λ H₀ G₀ Γ σ H G R Q w=>?_⟩
  refine qa _ _ _ _ _ _ R _ (wStep w (λ _ h=>h) λ x w v H1 G1 E1 d1=>?_)
  refine qb _ _ _ _ _ _ (R.after E1) _ (wStep w (λ _ h=>h.up E1) λ y w u H2 G2 E2 d2=>?_)
  obtain ⟨d,e',w⟩:=wOfO w
  exact ht _ _ _ _ _ _ _ E2.gh (d1.up E2.gg) d2 e' _ λ w' H3 G3 E3 d3=>w _ _ _ (E1.trans (E2.trans E3)) d3
theorem ev_cmp {op:CmpOp} {F:D->D->Option D} (ho:OpD X (compareOp op) F) (ha:EvD X W a fa) (hb:EvD X W b fb) (hm:behindInMarks op b=false:=by first | exact nomark _ | with_unfolding_all rfl):EvD X W (.Compare a [op] [b] pos) (e2 F fa fb):=by
  obtain ⟨r,hr,ht⟩:=ho
  obtain ⟨ta,pa,qa⟩:=ha
  obtain ⟨tb,pb,qb⟩:=hb
  refine ⟨_,pe_cmpR hr pa pb hm,λ H₀ G₀ Γ σ H G R Q w=>?_⟩
  refine qa _ _ _ _ _ _ R _ (wStep w (λ _ h=>h) λ x w v H1 G1 E1 d1=>?_)
  refine qb _ _ _ _ _ _ (R.after E1) _ (wStep w (λ _ h=>h.up E1) λ y w u H2 G2 E2 d2=>?_)
  obtain ⟨d,e',w⟩:=wOfO w
  exact ht _ _ _ _ _ _ _ E2.gh (d1.up E2.gg) d2 e' _ λ w' H3 G3 E3 d3=>w _ _ _ (E1.trans (E2.trans E3)) d3
def asB:D->Option Bool
  | .bl b=>some b
  | _=>none
theorem asB_eq {d:D} {k:Bool} (h:asB d=some k):d=.bl k:=by
  cases d <;> first | (cases h; rfl) | cases h
def tB (f:Ga->R D):Ga->R Bool:=λ Γ=>(f Γ).bind λ d=>.ofO (asB d)
theorem tv_of_test {t:TE} (p:PT X e (tTest t)) (q:Tells X.K W t f):TvD X W e (tB f):=by
  refine ⟨_,p,λ H₀ G₀ Γ σ H G R Q w=>?_⟩
  refine q _ _ _ _ _ _ R _ (wStep w (λ _ h=>h) λ d w v H' G' E1 d1=>?_)
  obtain ⟨kb,e2,w⟩:=wOfO w
  cases asB_eq e2
  exact ⟨kb,den_blE d1,w _ _ E1⟩
theorem op_tells {r:R2} {F:D->D->Option D} {ta tb:TE}
    (ht:∀ (H G:Hp) (x y:V) (d1 d2 d:D),Same G H->Den X.K G d1 x->Den X.K G d2 y->F d1 d2=some d->∀ Q:VK,(∀ v H' G',Ext H G H' G'->Den X.K G' d v->Q v H')->r x y H Q)
    (qa:Tells X.K W ta fa) (qb:Tells X.K W tb fb):Tells X.K W (tOp r ta tb) (e2 F fa fb):=by
  intro H₀ G₀ Γ σ H G R Q w
  refine qa _ _ _ _ _ _ R _ (wStep w (λ _ h=>h) λ x w v H1 G1 E1 d1=>?_)
  refine qb _ _ _ _ _ _ (R.after E1) _ (wStep w (λ _ h=>h.up E1) λ y w u H2 G2 E2 d2=>?_)
  obtain ⟨d,e',w⟩:=wOfO w
  exact ht _ _ _ _ _ _ _ E2.gh (d1.up E2.gg) d2 e' _ λ w' H3 G3 E3 d3=>w _ _ _ (E1.trans (E2.trans E3)) d3
theorem tv_cmp {op:CmpOp} {F:D->D->Option D} (ho:OpD X (compareOp op) F) (ha:EvD X W a fa) (hb:EvD X W b fb) (hm:behindInMarks op b=false:=by first | exact nomark _ | with_unfolding_all rfl):TvD X W (.Compare a [op] [b] pos) (tB (e2 F fa fb)):=by
  obtain ⟨r,hr,ht⟩:=ho
  obtain ⟨ta,pa,qa⟩:=ha
  obtain ⟨tb,pb,qb⟩:=hb
  exact tv_of_test (pt_cmpR hr pa pb hm) (op_tells ht qa qb)
def e3 (F F':D->D->Option D) (fa fb fc:Ga->R D):Ga->R D:=λ Γ=>(fa Γ).bind λ x=>(fb Γ).bind λ y=>(R.ofO (F x y)).bind λ z=>match z with
  | .bl true=>(fc Γ).bind λ w=>.ofO (F' y w)
  | .bl false=>.ok (.bl false)
  | _=>.no
theorem chain_tells {r r':R2} {F F':D->D->Option D} {ta tb tc:TE}
    (ht:∀ (H G:Hp) (x y:V) (d1 d2 d:D),Same G H->Den X.K G d1 x->Den X.K G d2 y->F d1 d2=some d->∀ Q:VK,(∀ v H' G',Ext H G H' G'->Den X.K G' d v->Q v H')->r x y H Q)
    (ht':∀ (H G:Hp) (x y:V) (d1 d2 d:D),Same G H->Den X.K G d1 x->Den X.K G d2 y->F' d1 d2=some d->∀ Q:VK,(∀ v H' G',Ext H G H' G'->Den X.K G' d v->Q v H')->r' x y H Q)
    (qa:Tells X.K W ta fa) (qb:Tells X.K W tb fb) (qc:Tells X.K W tc fc):Tells X.K W (tChain r r' ta tb tc) (e3 F F' fa fb fc):=by
  intro H₀ G₀ Γ σ H G R Q w
  refine qa _ _ _ _ _ _ R _ (wStep w (λ _ h=>h) λ x w v H1 G1 E1 d1=>?_)
  refine qb _ _ _ _ _ _ (R.after E1) _ (wStep w (λ _ h=>h.up E1) λ y w u H2 G2 E2 d2=>?_)
  obtain ⟨z,ez,w⟩:=wOfOb w
  refine ht _ _ _ _ _ _ _ E2.gh (d1.up E2.gg) d2 ez _ λ w' H3 G3 E3 d3=>?_
  have R3:=(R.after E1).after (E2.trans E3)
  split at w
  · refine ⟨true,den_blE d3,?_⟩
    rw [if_pos rfl]
    refine qc _ _ _ _ _ _ R3 _ (wStep w (λ _ h=>h.up (E1.trans (E2.trans E3))) λ w' w w'' H4 G4 E4 d4=>?_)
    obtain ⟨d,e',w⟩:=wOfO w
    exact ht' _ _ _ _ _ _ _ E4.gh (d2.up (E3.gg.trans E4.gg)) d4 e' _ λ w5 H5 G5 E5 d5=>w _ _ _ (E1.trans (E2.trans (E3.trans (E4.trans E5)))) d5
  · refine ⟨false,den_blE d3,?_⟩
    rw [if_neg Bool.false_ne_true]
    exact w _ _ _ (E1.trans (E2.trans E3)) den_bl
  · exact w.elim
theorem ev_chain {op op':CmpOp} {F F':D->D->Option D} (ho:OpD X (compareOp op) F) (ho':OpD X (compareOp op') F') (ha:EvD X W a fa) (hb:EvD X W b fb) (hc:EvD X W c fc)
    (hm:lastMarks [op,op'] [b,c]=false:=by with_unfolding_all rfl):EvD X W (.Compare a [op,op'] [b,c] pos) (e3 F F' fa fb fc):=by
  obtain ⟨r,hr,ht⟩:=ho
  obtain ⟨r',hr',ht'⟩:=ho'
  obtain ⟨ta,pa,qa⟩:=ha
  obtain ⟨tb,pb,qb⟩:=hb
  obtain ⟨tc,pc,qc⟩:=hc
  exact ⟨_,pe_chain hr hr' pa pb pc hm,chain_tells (X:=X) ht ht' qa qb qc⟩
def eAnd (fa fb:Ga->R D):Ga->R D:=λ Γ=>(fa Γ).bind λ x=>match x with
  | .bl true=>fb Γ
  | .bl false=>.ok (.bl false)
  | _=>.no
def eOr (fa fb:Ga->R D):Ga->R D:=λ Γ=>(fa Γ).bind λ x=>match x with
  | .bl true=>.ok (.bl true)
  | .bl false=>fb Γ
  | _=>.no
def eNot (fa:Ga->R D):Ga->R D:=λ Γ=>(fa Γ).bind λ x=>match x with
  | .bl k=>.ok (.bl (!k))
  | _=>.no
theorem ev_one {op} (h:EvD X W a f):EvD X W (.BoolOp op [a] pos) f:=let ⟨t,p,q⟩:=h; ⟨t,pe_one p,q⟩
theorem ev_and (ha:EvD X W a fa) (hb:EvD X W (.BoolOp .And (b::rest) pos) fb):EvD X W (.BoolOp .And (a::b::rest) pos) (eAnd fa fb):=by
  obtain ⟨ta,pa,qa⟩:=ha
  obtain ⟨tb,pb,qb⟩:=hb
  refine ⟨_,pe_and pa pb,λ H₀ G₀ Γ σ H G R Q w=>?_⟩
  refine qa _ _ _ _ _ _ R _ (wStep w (λ _ h=>h) λ x w v H1 G1 E1 d1=>?_)
  split at w
  · refine ⟨true,den_blE d1,?_⟩
    rw [if_pos rfl]
    exact qb _ _ _ _ _ _ (R.after E1) _ (wImp w (λ _ h=>h.up E1) λ d w u H2 G2 E2 d2=>w _ _ _ (E1.trans E2) d2)
  · refine ⟨false,den_blE d1,?_⟩
    rw [if_neg Bool.false_ne_true]
    exact w _ _ _ E1 den_bl
  · exact w.elim
theorem ev_or (ha:EvD X W a fa) (hb:EvD X W (.BoolOp .Or (b::rest) pos) fb):EvD X W (.BoolOp .Or (a::b::rest) pos) (eOr fa fb):=by
  obtain ⟨ta,pa,qa⟩:=ha
  obtain ⟨tb,pb,qb⟩:=hb
  refine ⟨_,pe_or pa pb,λ H₀ G₀ Γ σ H G R Q w=>?_⟩
  refine qa _ _ _ _ _ _ R _ (wStep w (λ _ h=>h) λ x w v H1 G1 E1 d1=>?_)
  split at w
  · refine ⟨true,den_blE d1,?_⟩
    rw [if_pos rfl]
    exact w _ _ _ E1 den_bl
  · refine ⟨false,den_blE d1,?_⟩
    rw [if_neg Bool.false_ne_true]
    exact qb _ _ _ _ _ _ (R.after E1) _ (wImp w (λ _ h=>h.up E1) λ d w u H2 G2 E2 d2=>w _ _ _ (E1.trans E2) d2)
  · exact w.elim
theorem ev_not (ha:EvD X W a fa):EvD X W (.UnaryOp .Not a pos) (eNot fa):=by
  obtain ⟨ta,pa,qa⟩:=ha
  refine ⟨_,pe_not pa,λ H₀ G₀ Γ σ H G R Q w=>?_⟩
  refine qa _ _ _ _ _ _ R _ (wStep w (λ _ h=>h) λ x w v H1 G1 E1 d1=>?_)
  split at w
  · rename_i kb
    exact ⟨kb,den_blE d1,w _ _ _ E1 den_bl⟩
  · exact w.elim
def eNeg (fa:Ga->R D):Ga->R D:=λ Γ=>(fa Γ).bind λ x=>match x with
  | .int i=>.ok (.int (-i))
  | _=>.no
theorem ev_neg (ha:EvD X W a fa):EvD X W (.UnaryOp .USub a pos) (eNeg fa):=by
  obtain ⟨ta,pa,qa⟩:=ha
  refine ⟨_,pe_un un_neg pa,λ H₀ G₀ Γ σ H G R Q w=>?_⟩
  refine qa _ _ _ _ _ _ R _ (wStep w (λ _ h=>h) λ x w v H1 G1 E1 d1=>?_)
  split at w
  · rename_i i
    exact ⟨i,den_intE d1,w _ _ _ E1 den_int⟩
  · exact w.elim
variable {ga gb:Ga->R Bool}
theorem WvD.tv (h:WvD X W e ga):TvD X W e ga:=let ⟨t,p,q⟩:=h; ⟨t,p.pt,q⟩
def tAndR (ga gb:Ga->R Bool):Ga->R Bool:=λ Γ=>(ga Γ).bind λ k=>match k with
  | true=>gb Γ
  | false=>.ok false
def tOrR (ga gb:Ga->R Bool):Ga->R Bool:=λ Γ=>(ga Γ).bind λ k=>match k with
  | true=>.ok true
  | false=>gb Γ
def tNotR (ga:Ga->R Bool):Ga->R Bool:=λ Γ=>(ga Γ).bind λ k=>.ok (!k)
theorem wv_and1 (h:TvD X W a ga):WvD X W (.BoolOp .And [a] pos) ga:=let ⟨t,p,q⟩:=h; ⟨t,pw_and1 p,q⟩
theorem wv_or1 (h:TvD X W a ga):WvD X W (.BoolOp .Or [a] pos) ga:=let ⟨t,p,q⟩:=h; ⟨t,pw_or1 p,q⟩
theorem wv_and (ha:TvD X W a ga) (hb:WvD X W (.BoolOp .And (b::rest) pos) gb):WvD X W (.BoolOp .And (a::b::rest) pos) (tAndR ga gb):=by
  obtain ⟨ta,pa,qa⟩:=ha
  obtain ⟨tb,pb,qb⟩:=hb
  refine ⟨_,pw_and pa pb,λ H₀ G₀ Γ σ H G R Q w=>?_⟩
  refine qa _ _ _ _ _ _ R _ (wStep w (λ _ h=>h) λ x w H1 G1 E1=>?_)
  cases x with
  | true=>exact iteT (qb _ _ _ _ _ _ (R.after E1) _ (wImp w (λ _ h=>h.up E1) λ d w H2 G2 E2=>w _ _ (E1.trans E2)))
  | false=>exact iteF (w _ _ E1)
theorem wv_or (ha:TvD X W a ga) (hb:WvD X W (.BoolOp .Or (b::rest) pos) gb):WvD X W (.BoolOp .Or (a::b::rest) pos) (tOrR ga gb):=by
  obtain ⟨ta,pa,qa⟩:=ha
  obtain ⟨tb,pb,qb⟩:=hb
  refine ⟨_,pw_or pa pb,λ H₀ G₀ Γ σ H G R Q w=>?_⟩
  refine qa _ _ _ _ _ _ R _ (wStep w (λ _ h=>h) λ x w H1 G1 E1=>?_)
  cases x with
  | true=>exact iteT (w _ _ E1)
  | false=>exact iteF (qb _ _ _ _ _ _ (R.after E1) _ (wImp w (λ _ h=>h.up E1) λ d w H2 G2 E2=>w _ _ (E1.trans E2)))
theorem tv_not (ha:TvD X W a ga):TvD X W (.UnaryOp .Not a pos) (tNotR ga):=by
  obtain ⟨ta,pa,qa⟩:=ha
  refine ⟨_,pt_not pa,λ H₀ G₀ Γ σ H G R Q w=>?_⟩
  exact qa _ _ _ _ _ _ R _ (wStep w (λ _ h=>h) λ x w H1 G1 E1=>w _ _ E1)
def truD:D->Option Bool
  | .non=>some false
  | .bl b=>some b
  | .int i=>some (i != 0)
  | .str x=>if x.length<=10000 then some ((x.length:Int) != 0) else none
  | .tup ds=>some (!ds.isEmpty)
  | .lst ds=>some (!ds.isEmpty)
theorem isEmpty_den {K:PySem.W.Frag} {G:Hp} {ds:List D} {vs:List V} (h:DenL K G ds vs):(!ds.isEmpty)=(!vs.isEmpty):=by
  cases ds with
  | nil=>rw [denL_nil.mp h]; rfl
  | cons d ds=>obtain ⟨v,r,rfl,_⟩:=denL_cons.mp h; rfl
theorem big24 {n:Nat} (h:n<=10000):n<=sizeLine:=Nat.le_trans h (by decide)
theorem tru_den {K:PySem.W.Frag} {H G:Hp} {d:D} {v:V} {k:Bool} (g:Same G H) (h:Den K G d v) (e:truD d=some k):TruV K v H k:=by
  cases d with
  | non=>cases e; rw [den_nonE h]; rfl
  | bl b=>cases e; rw [den_blE h]; rfl
  | int i=>cases e; rw [den_intE h]; rfl
  | str x =>
    rw [den_strE h]
    have e:(if x.length<=10000 then some ((x.length:Int) != 0) else none)=some k:=e
    split at e
    · rename_i hl
      cases e
      exact ⟨big24 hl,rfl⟩
    · cases e
  | tup ds =>
    cases e
    obtain ⟨a,vs,rfl,s,l⟩:=den_tup.mp h
    exact .inr (.inl ⟨vs,Same.seqT g s,isEmpty_den l⟩)
  | lst ds =>
    cases e
    obtain ⟨a,vs,rfl,s,l⟩:=den_lst.mp h
    exact .inl ⟨vs,g.seq s,isEmpty_den l⟩
def tTru (f:Ga->R D):Ga->R Bool:=λ Γ=>(f Γ).bind λ d=>.ofO (truD d)
theorem tv_val (h:EvD X W a f) (he:∀ whole,isTrue a X.env whole=(do let v <- whole; standAt a.pos; holding [v] (truthy v)):=by intro _; rfl):TvD X W a (tTru f):=by
  obtain ⟨t,p,q⟩:=h
  refine ⟨_,pt_truth p he,λ H₀ G₀ Γ σ H G R Q w=>?_⟩
  refine q _ _ _ _ _ _ R _ (wStep w (λ _ h=>h) λ d w v H' G' E1 d1=>?_)
  obtain ⟨kb,e2,w⟩:=wOfO w
  exact ⟨kb,tru_den E1.gh d1 e2,w _ _ E1⟩
end
def ClsIs (K:PySem.W.Frag) (c:Str) (cls:Value):Prop:=∃ C,cls=.ref C/\PySem.W.nsIn K mainGlobals c=some (some (.ref C))
def spF (K:PySem.W.Frag) (mg:Str->Option Value) (n:Nat) (F:List D->R D):Sp:=λ vs H Q E=>∃ (G:Hp) (ds:List D),Same G H/\TabIn K H G/\DenL K G ds vs/\ds.length=n /\
  (F ds).want (λ c=>∀ cls dx H' G',ClsIs K c cls->Ext H G H' G'->E cls dx H') (λ d=>∀ v H' G',Ext H G H' G'->Den K G' d v->Q v H')
def xkOf (K:PySem.W.Frag) (W:XP) (σ:L2.St):XK:=λ cls _ H'=>∃ c G',ClsIs K c cls/\W c σ H' G'
def PassW (CX:CXT) (X:Cx) (W:XP):Prop:=∀ (pins:List (Addr×Obj)) (σ:L2.St) (H:Hp) (s:Shared) (e:Value) (s':Shared),Inv X pins σ H s->CX X.stack H s (xkOf X.K W σ) e s'->X.xe e s'
section
variable {X:Cx} {W:XP} {e:Expr} {es:List Expr} {f:Ga->R D} {fl:Ga->R (List D)} {pos p:Pos}
def tCallX (K:PySem.W.Frag) (W:XP) (sp:Sp) (t:TA):TE:=λ σ H Q=>t σ H λ vs H1=>sp vs H1 Q (xkOf K W σ)
theorem pe_callX {CX:CXT} {k:Nat} {fa:Addr} {fd:FuncData} {ps:List Str} {sp:Sp} {x:Str} {t:TA} (F:FnOk X.prog X.w X.K X.mg X.base CX k fa fd ps sp) (hr:Room k X.A) (hg:Gl X x) (hm:X.mg x=some (.ref fa))
    (hk:PySem.W.keepIn X.K (.ref fa)=true) (hb:Binds X.K fd ps []) (hx:PassW CX X W) (ha:PA X (e::es) t) (hdb:(x == ("__debug__":Str))=false)
    (he:starEach (e::es) X.env=(false,eval e X.env)::starEach es X.env) (hpl:(backTo pos (starEach es X.env)).any (·.1)=false):PE X (.Call (.Name x p) (e::es) [] pos) (tCallX X.K W sp t):=by
  intro pins s σ H Q I h
  refine wpAny_Call_Name_kw (ld_glob I hg hm ?_ hdb)
  refine PySem.W.callWith_K (h₀:=X.base) I.ok.mod.kin hk (thn (ha pos pins s σ H _ I h) λ us s1 ⟨vs,H1,I1,r,q⟩=>⟨I1.kIn,?_⟩) he hpl
  have hl:us.length=ps.length:=by rw [<- r.length]; exact F.len _ _ _ _ q
  have bb:=hb s1 us I1.kIn (by rw [List.append_nil]; exact hl)
  rw [List.append_nil] at bb
  refine wpAny_call (codeAny_mono (F.run X.A X.stack s1 H1 ⟨us,[]⟩ us vs Q _ hr I1.env0 bb r q) λ r s' hq=>?_)
  cases r with
  | error e=>exact hx pins σ H1 s1 e s' I1 hq
  | ok fl =>
    cases fl with
    | ret u=>exact I1.after hq
    | next=>exact False.elim hq
    | brk=>exact False.elim hq
    | cont=>exact False.elim hq
def eCall (F:List D->R D) (fl:Ga->R (List D)):Ga->R D:=λ Γ=>(fl Γ).bind F
theorem ev_call {CX:CXT} {k:Nat} {fa:Addr} {fd:FuncData} {ps:List Str} {F:List D->R D} {x:Str} (Fn:FnOk X.prog X.w X.K X.mg X.base CX k fa fd ps (spF X.K X.mg ps.length F)) (hx:PassW CX X W) (hr:Room k X.A) (hg:Gl X x) (hm:X.mg x=some (.ref fa))
    (hk:PySem.W.keepIn X.K (.ref fa)=true) (hb:Binds X.K fd ps []) (ha:AvD X W (e::es) fl) (hn:(e::es).length=ps.length:=by rfl) (hdb:(x == ("__debug__":Str))=false:=by decide)
    (he:starEach (e::es) X.env=(false,eval e X.env)::starEach es X.env:=by rfl) (hpl:(backTo pos (starEach es X.env)).any (·.1)=false:=by rfl) :
    EvD X W (.Call (.Name x p) (e::es) [] pos) (eCall F fl):=by
  obtain ⟨t,pt,hl,q⟩:=ha
  refine ⟨_,pe_callX Fn hr hg hm hk hb hx pt hdb he hpl,λ H₀ G₀ Γ σ H G R Q w=>?_⟩
  refine q _ _ _ _ _ _ R _ (wImp (wLen (hl Γ) (wStep w (λ _ h=>h) λ ds w=>w)) (λ _ h=>h) λ ds ⟨hd,w⟩ vs H1 G1 E1 d1=>?_)
  exact ⟨G1,ds,E1.gh,E1.tab R.tab,d1,hd.trans hn,wImp w (λ c h cls dx H' G' hc E2=>⟨c,G',hc,h H' G' (E1.trans E2)⟩) λ d w v H' G' E2 d2=>w v H' G' (E1.trans E2) d2⟩
def CallD (X:Cx) (g:Value) (F:List D->Option D):Prop :=
  ∃ r,CallR X g r/\∀ (H G:Hp) (vs:List V) (ds:List D) (d:D),Same G H->DenL X.K G ds vs->F ds=some d->∀ Q:VK,(∀ v H' G',Ext H G H' G'->Den X.K G' d v->Q v H')->r vs H Q
def eB (F:List D->Option D) (fl:Ga->R (List D)):Ga->R D:=λ Γ=>(fl Γ).bind λ ds=>.ofO (F ds)
theorem ev_callB {id:String} {F:List D->Option D} {x:Str} (hc:CallD X (.builtin id) F) (hg:Gl X x) (hm:X.mg x=none) (hv:bootBuiltins x=some (.builtin id)) (ha:AvD X W (e::es) fl) (hn:x≠"__name__":=by decide)
    (hdb:(x == ("__debug__":Str))=false:=by decide) (he:starEach (e::es) X.env=(false,eval e X.env)::starEach es X.env:=by rfl) (hpl:(backTo pos (starEach es X.env)).any (·.1)=false:=by rfl) :
    EvD X W (.Call (.Name x p) (e::es) [] pos) (eB F fl):=by
  obtain ⟨r,hr,ht⟩:=hc
  obtain ⟨t,pt,hl,q⟩:=ha
  refine ⟨_,pe_callB hr hg hm hv pt hn hdb he hpl,λ H₀ G₀ Γ σ H G R Q w=>?_⟩
  refine q _ _ _ _ _ _ R _ (wStep w (λ _ h=>h) λ ds w vs H1 G1 E1 d1=>?_)
  obtain ⟨d,e2,w⟩:=wOfO w
  exact ht _ _ _ _ _ E1.gh d1 e2 _ λ v H' G' E2 d2=>w v H' G' (E1.trans E2) d2
def CallS (X:Cx) (g:Value) (F:Bool×List D->Option D):Prop :=
  ∃ r,CallR X g r/\∀ (H G:Hp) (b:Bool) (ds:List D) (d:D) (a:Addr) (vs:List V),Same G H->SqP X.K H G b a vs->DenL X.K G ds vs->F (b,ds)=some d->∀ Q:VK,(∀ v H' G',Ext H G H' G'->Den X.K G' d v->Q v H')->r [.ref a] H Q
variable {fs:Ga->R (Bool×List D)}
def eS (F:Bool×List D->Option D) (fs:Ga->R (Bool×List D)):Ga->R D:=λ Γ=>(fs Γ).bind λ p=>.ofO (F p)
theorem ev_callBS {id:String} {F:Bool×List D->Option D} {x:Str} (hc:CallS X (.builtin id) F) (hg:Gl X x) (hm:X.mg x=none) (hv:bootBuiltins x=some (.builtin id)) (ha:SqD X W e fs) (hn:x≠"__name__":=by decide)
    (hdb:(x == ("__debug__":Str))=false:=by decide) (he:starEach [e] X.env=[(false,eval e X.env)]:=by rfl):EvD X W (.Call (.Name x p) [e] [] pos) (eS F fs):=by
  obtain ⟨r,hr,ht⟩:=hc
  obtain ⟨t,pt,q⟩:=ha
  refine ⟨_,pe_callB hr hg hm hv (pa_cons pt pa_nil he) hn hdb he rfl,λ H₀ G₀ Γ σ H G R Q w=>?_⟩
  refine q _ _ _ _ _ _ R _ (wStep w (λ _ h=>h) λ ⟨b,ds⟩ w a vs H1 G1 E1 s1 d1=>?_)
  obtain ⟨d,e2,w⟩:=wOfO w
  exact ht _ _ _ _ _ _ _ E1.gh s1 d1 e2 _ λ v H' G' E2 d2=>w v H' G' (E1.trans E2) d2
theorem ev_callTS {id:String} {F:Bool×List D->Option D} {x:Str} (hc:CallS X (.type id) F) (hg:Gl X x) (hm:X.mg x=none) (hv:bootBuiltins x=some (.type id)) (ha:SqD X W e fs) (hn:x≠"__name__":=by decide)
    (hdb:(x == ("__debug__":Str))=false:=by decide) (he:starEach [e] X.env=[(false,eval e X.env)]:=by rfl):EvD X W (.Call (.Name x p) [e] [] pos) (eS F fs):=by
  obtain ⟨r,hr,ht⟩:=hc
  obtain ⟨t,pt,q⟩:=ha
  refine ⟨_,pe_callTy hr hg hm hv (pa_cons pt pa_nil he) hn hdb he rfl,λ H₀ G₀ Γ σ H G R Q w=>?_⟩
  refine q _ _ _ _ _ _ R _ (wStep w (λ _ h=>h) λ ⟨b,ds⟩ w a vs H1 G1 E1 s1 d1=>?_)
  obtain ⟨d,e2,w⟩:=wOfO w
  exact ht _ _ _ _ _ _ _ E1.gh s1 d1 e2 _ λ v H' G' E2 d2=>w v H' G' (E1.trans E2) d2
end
end Wy


namespace Wy
open PySem PySem.Spec PyProof.Rows L2
inductive RS where
  | nx (Γ:Ga) | rt (d:D) | bk (Γ:Ga) | ct (Γ:Ga) | ex (c:Str) (Γ:Ga) | no
def RS.of {α:Type} (x:R α) (Γ:Ga) (k:α->RS):RS:=match x with
  | .ok a=>k a
  | .ex c=>.ex c Γ
  | .no=>.no
@[simp] theorem RS.of_ok {α:Type} (a:α) (Γ:Ga) (k:α->RS):RS.of (.ok a) Γ k=k a:=nr rfl
@[simp] theorem RS.of_no {α:Type} (Γ:Ga) (k:α->RS):RS.of .no Γ k=.no:=nr rfl
def Lifts (K:PySem.W.Frag) (W:XP) (H₀ G₀:Hp) (r:RS) (D:Ends):Prop:=match r with
  | .nx Γ=>∀ σ H G,Rep K H₀ G₀ Γ σ H G->D.nx σ H
  | .rt d=>∀ v H G,Ext H₀ G₀ H G->Den K G d v->D.rt v H
  | .bk Γ=>∀ σ H G,Rep K H₀ G₀ Γ σ H G->D.bk σ H
  | .ct Γ=>∀ σ H G,Rep K H₀ G₀ Γ σ H G->D.ct σ H
  | .ex c Γ=>∀ σ H G,Rep K H₀ G₀ Γ σ H G->W c σ H G
  | .no=>False
theorem wS {K:PySem.W.Frag} {W:XP} {H₀ G₀:Hp} {α:Type} {x:R α} {Γ:Ga} {k:α->RS} {D:Ends} {σ:L2.St} {H G:Hp} {P:α->Prop} (r:Rep K H₀ G₀ Γ σ H G) (w:Lifts K W H₀ G₀ (RS.of x Γ k) D)
    (h:∀ a,Lifts K W H₀ G₀ (k a) D->P a):x.want (exAt W σ H G) P:=by
  cases x with
  | ok a=>exact h a w
  | ex c=>exact λ H' G' e=>w σ H' G' (r.after e)
  | no=>exact w.elim
theorem Ext.unbase {H₀ G₀ H1 G1 H G:Hp} (e:Ext H₀ G₀ H1 G1) (r:Ext H₀ G1 H G):Ext H₀ G₀ H G:=⟨e.gg.trans r.gg,r.gh,r.hh,λ a h=>(r.fr a h).trans (e.fr a h),r.tb⟩
theorem Rep.base {K:PySem.W.Frag} {H₀ G₀ H G:Hp} {Γ:Ga} {σ:L2.St} (R:Rep K H₀ G₀ Γ σ H G):Rep K H₀ G Γ σ H G:=⟨⟨Same.refl _,R.ex.gh,R.ex.hh,λ _ _=>rfl,R.ex.tb⟩,R.tab,R.ln,R.all,R.di⟩
theorem Rep.unbase {K:PySem.W.Frag} {H₀ G₀ H1 G1 H G:Hp} {Γ:Ga} {σ:L2.St} (e:Ext H₀ G₀ H1 G1) (R:Rep K H₀ G1 Γ σ H G):Rep K H₀ G₀ Γ σ H G:=⟨e.unbase R.ex,R.tab,R.ln,R.all,R.di⟩
theorem Lifts.base {K:PySem.W.Frag} {W:XP} {H₀ G₀ H1 G1:Hp} {r:RS} {D:Ends} (e:Ext H₀ G₀ H1 G1) (w:Lifts K W H₀ G₀ r D):Lifts K W H₀ G1 r D:=by
  cases r with
  | nx Γ=>exact λ σ H G R=>w σ H G (R.unbase e)
  | rt d=>exact λ v H G r=>w v H G (e.unbase r)
  | bk Γ=>exact λ σ H G R=>w σ H G (R.unbase e)
  | ct Γ=>exact λ σ H G R=>w σ H G (R.unbase e)
  | ex c Γ=>exact λ σ H G R=>w σ H G (R.unbase e)
  | no=>exact w
def Does (K:PySem.W.Frag) (W:XP) (t:TS) (s:Ga->RS):Prop:=∀ (H₀ G₀:Hp) (Γ:Ga) (σ:L2.St) (H G:Hp),Rep K H₀ G₀ Γ σ H G->∀ D:Ends,Lifts K W H₀ G₀ (s Γ) D->t D σ H
def ExD (X:Cx) (W:XP) (st:Stmt) (s:Ga->RS):Prop:=∃ t,PS X st t/\Does X.K W t s
def ExDs (X:Cx) (W:XP) (sts:List Stmt) (s:Ga->RS):Prop:=∃ t,PSs X sts t/\Does X.K W t s
def TgD (X:Cx) (tg:Expr) (g:D->Ga->Option Ga):Prop:=∃ t:TG,PG X tg t/\∀ (H₀ G₀:Hp) (Γ:Ga) (σ:L2.St) (H G:Hp) (d:D) (v:V) (Γ':Ga),Rep X.K H₀ G₀ Γ σ H G->Den X.K G d v->g d Γ=some Γ' ->
  ∀ Q:L2.St->Hp->Prop,(∀ σ' ,Rep X.K H₀ G₀ Γ' σ' H G->Q σ' H)->t v σ H Q
section
variable {X:Cx} {W:XP} {st:Stmt} {rest sa sb:List Stmt} {T U:Ga->RS} {e c:Expr} {f:Ga->R D} {fl:Ga->R (List D)} {fs:Ga->R (Bool×List D)} {g:Ga->R Bool} {pos pos' apos cpos:Pos} {x y:Str} {i j:Nat}
def sNext:Ga->RS:=λ Γ=>.nx Γ
def sSeq (T U:Ga->RS):Ga->RS:=λ Γ=>match T Γ with
  | .nx Γ'=>U Γ'
  | r=>r
theorem xs_nil:ExDs X W [] sNext:=⟨_,pss_nil,λ _ _ Γ σ H G R D w=>w σ H G R⟩
theorem Lifts.seq {K:PySem.W.Frag} {H₀ G₀:Hp} {D:Ends} {u:TS} {Γ:Ga} (q:Does K W u U) (w:Lifts K W H₀ G₀ (sSeq T U Γ) D):Lifts K W H₀ G₀ (T Γ) { D with nx:=u D }:=by
  unfold sSeq at w
  cases h:T Γ with
  | nx Γ'=>rw [h] at w; exact λ σ H G R=>q H₀ G₀ Γ' σ H G R D w
  | rt d=>rw [h] at w; exact w
  | bk d=>rw [h] at w; exact w
  | ct d=>rw [h] at w; exact w
  | ex c d=>rw [h] at w; exact w
  | no=>rw [h] at w; exact w
theorem xs_cons (h1:ExD X W st T) (h2:ExDs X W rest U):ExDs X W (st::rest) (sSeq T U):=by
  obtain ⟨t,p,q⟩:=h1
  obtain ⟨u,p',q'⟩:=h2
  exact ⟨_,pss_cons p p',λ H₀ G₀ Γ σ H G R D w=>q H₀ G₀ Γ σ H G R _ (Lifts.seq q' w)⟩
theorem xs_one (h1:ExD X W st T):ExDs X W [st] T:=let ⟨t,p,q⟩:=h1; ⟨t,pss_one p,q⟩
def sRet (f:Ga->R D):Ga->RS:=λ Γ=>.of (f Γ) Γ λ d=>.rt d
theorem x_ret (h:EvD X W e f):ExD X W (.Return (some e) pos) (sRet f):=by
  obtain ⟨t,p,q⟩:=h
  refine ⟨_,ps_ret p,λ H₀ G₀ Γ σ H G R D w=>?_⟩
  exact q _ _ _ _ _ _ R _ (wS R w λ d w v H' G' E1 d1=>w v H' G' (R.ex.trans E1) d1)
def sRetO (i:Nat):Ga->RS:=λ Γ=>match Γ[i]? with
  | some (.own xs)=>.rt (.lst xs)
  | _=>.no
theorem x_retO (i:Nat) (hN:X.N[i]?=some x:=by rfl) (hv:Vis X.env.scope x:=by first | exact Or.inl rfl | exact Or.inr (Or.inl rfl) | exact Or.inr (Or.inr rfl)) (hd:(x == ("__debug__":Str))=false:=by decide)
    (hcd:(x == ("__classdict__":Str))=false:=by decide):ExD X W (.Return (some (.Name x pos')) pos) (sRetO i):=by
  refine ⟨_,ps_ret (pe_var hN hv hd hcd),λ H₀ G₀ Γ σ H G R D w=>?_⟩
  unfold sRetO at w
  split at w
  · rename_i xs e1
    obtain ⟨a,vs,s1,s2,s3,s4,s5⟩:=R.ow i xs e1
    exact ⟨_,s1,w _ H _ (R.ex.take s3 s2 s4) (den_lst.mpr ⟨a,vs,rfl,SqL.of upd_same,s5.up (same_upd s4 _)⟩)⟩
  · exact w.elim
def sSet (i:Nat) (f:Ga->R D):Ga->RS:=λ Γ=>.of (f Γ) Γ λ d=>.nx (Γ.set i (.val d))
theorem x_set (i:Nat) (he:EvD X W e f) (hN:X.N.Nodup) (hi:X.N[i]?=some x:=by rfl) (hx:Loc X.env.scope x:=by first | exact Or.inl rfl | exact Or.inr rfl) (hs:swapsWith e (some (.Name x pos')) pos.line X.env=pure false:=by rfl)
    (hf:X.fn x=true∨X.env.scope.names.lookup x=some .local:=by first | exact .inl rfl | exact .inr rfl | assumption):ExD X W (.Assign [.Name x pos'] e pos) (sSet i f):=by
  obtain ⟨t,p,q⟩:=he
  refine ⟨_,ps_set hN hi hx p hs hf,λ H₀ G₀ Γ σ H G R D w=>?_⟩
  exact q _ _ _ _ _ _ R _ (wS R w λ d w v H' G' E1 d1=>w _ H' G' ((R.after E1).setV i d1))
theorem own_new {K:PySem.W.Frag} {H₀ G₀ H G:Hp} {Γ:Ga} {σ:L2.St} {p:Addr} (R:Rep K H₀ G₀ Γ σ H G) (hp:H p=none):∀ (j:Nat) y,Γ[j]?=some y->y.mu=true->σ[j]?≠some (some (.ref p)):=λ j y hy hm hs=>by
  obtain ⟨a,us,s1,s2,_⟩:=R.at hy hm
  rw [hs] at s1
  cases s1
  rw [hp] at s2
  cases s2
def sSetO (i:Nat) (fl:Ga->R (List D)):Ga->RS:=λ Γ=>.of (fl Γ) Γ λ ds=>.nx (Γ.set i (.own ds))
theorem x_setO (i:Nat) (he:OwD X W e fl) (hN:X.N.Nodup) (hi:X.N[i]?=some x:=by rfl) (hx:Loc X.env.scope x:=by first | exact Or.inl rfl | exact Or.inr rfl) (hs:swapsWith e (some (.Name x pos')) pos.line X.env=pure false:=by rfl)
    (hf:X.fn x=true∨X.env.scope.names.lookup x=some .local:=by first | exact .inl rfl | exact .inr rfl | assumption):ExD X W (.Assign [.Name x pos'] e pos) (sSetO i fl):=by
  obtain ⟨t,p,q⟩:=he
  refine ⟨_,ps_set hN hi hx p hs hf,λ H₀ G₀ Γ σ H G R D w=>?_⟩
  exact q _ _ _ _ _ _ R _ (wS R w λ d w p vs H' G' E1 hp h' g' l=>w _ H' G' ((R.after E1).setO i h' (R.ex.hh.free hp) g' l λ j ys hj hy=>own_new R hp j ys hy))
def sIf (g:Ga->R Bool) (T U:Ga->RS):Ga->RS:=λ Γ=>.of (g Γ) Γ λ k=>match k with
  | true=>T Γ
  | false=>U Γ
theorem x_if (hc:TvD X W c g) (ha:ExDs X W sa T) (hb:ExDs X W sb U):ExD X W (.If c sa sb pos) (sIf g T U):=by
  obtain ⟨t,p,q⟩:=hc
  obtain ⟨ta,pa,qa⟩:=ha
  obtain ⟨tb,pb,qb⟩:=hb
  refine ⟨_,ps_if p pa pb,λ H₀ G₀ Γ σ H G R D w=>?_⟩
  refine q _ _ _ _ _ _ R _ (wS R w λ k w H' G' E1=>?_)
  cases k with
  | true=>exact iteT (qa _ _ _ _ _ _ (R.after E1) D w)
  | false=>exact iteF (qb _ _ _ _ _ _ (R.after E1) D w)
theorem lt24 {n:Nat} (h:n < 16000000):n < sizeLine:=Nat.lt_of_lt_of_le h (by decide)
def sApp (i:Nat) (f:Ga->R D):Ga->RS:=λ Γ=>match Γ[i]? with
  | some (.own xs)=>.of (f Γ) Γ λ d=>if xs.length < 16000000 then .nx (Γ.set i (.own (xs++[d]))) else .no
  | _=>.no
theorem x_app (i:Nat) (he:EvD X W e f) (hN:X.N[i]?=some x:=by rfl) (hv:Vis X.env.scope x:=by first | exact Or.inl rfl | exact Or.inr (Or.inl rfl) | exact Or.inr (Or.inr rfl)) (hd:(x == ("__debug__":Str))=false:=by decide)
    (hcd:(x == ("__classdict__":Str))=false:=by decide) (hs:starEach [e] X.env=[(false,eval e X.env)]:=by rfl) (hline:(apos.endLine == cpos.line)=true:=by rfl)
    (hsw:swapsWith (.Call (.Attribute (.Name x pos') "append" apos) [e] [] cpos) none pos.line X.env=pure false:=by rfl)
    (hbase:attributeBase (.Name x pos') "append" X.env (eval (.Name x pos') X.env)=eval (.Name x pos') X.env:=by rfl)
    (hfew:((backTo cpos (starEach [e] X.env)).all (λ x=>!x.1)&&(backToKw cpos (keywordEach [] X.env)).all (λ x=>x.1.isSome)
     &&decide ([e].length + ([]:List Keyword).length + (if ([]:List Keyword).isEmpty then 0 else 1) < 30))=true:=by rfl) :
    ExD X W (.Expr (.Call (.Attribute (.Name x pos') "append" apos) [e] [] cpos) pos) (sApp i f):=by
  obtain ⟨t,p,q⟩:=he
  refine ⟨_,ps_expr (pe_bm PySem.F.plainAttrs_list PySem.F.slot_list_append PySem.F.type_list_append mt_append (pe_var hN hv hd hcd) (pa_cons p pa_nil hs) hbase hfew hline hs rfl) hsw,λ H₀ G₀ Γ σ H G R D w=>?_⟩
  unfold sApp at w
  split at w
  · rename_i xs e1
    obtain ⟨a,vs,s1,s2,s3,s4,s5⟩:=R.ow i xs e1
    refine ⟨_,s1,.inl ⟨rfl,vs,SqL.of s2⟩,?_⟩
    refine q _ _ _ _ _ _ R _ (wS R w λ d w v H' G' E1 d1=>?_)
    have l1:=s5.up E1.gg
    split at w
    · rename_i hz
      exact ⟨a,vs,v,rfl,rfl,E1.hh.lst s2,by rw [<- l1.length]; exact lt24 hz,w _ _ G' ((R.after E1).mut e1 s1 (l1.append (.one d1)))⟩
    · exact w.elim
  · exact w.elim
def sWhileN (g:Ga->R Bool) (T:Ga->RS):Nat->Ga->RS
  | 0,_=>.no
  | n + 1,Γ=>.of (g Γ) Γ λ k=>match k with
    | false=>.nx Γ
    | true=>match T Γ with
      | .nx Γ'=>sWhileN g T n Γ'
      | .ct Γ'=>sWhileN g T n Γ'
      | .bk Γ'=>.nx Γ'
      | r=>r
def FUEL:Nat:=1000000
def sWhile (g:Ga->R Bool) (T:Ga->RS):Ga->RS:=sWhileN g T FUEL
theorem x_while (hc:TvD X W c g) (hb:ExDs X W sa T) (hp:PassesOwn (model X.prog X.w) X.A X.env X.xe:=by exact PassesOwn.never):ExD X W (.While c sa [] pos) (sWhile g T):=by
  obtain ⟨t,p,q⟩:=hc
  obtain ⟨tb,pb,qb⟩:=hb
  refine ⟨_,ps_while hp p pb,λ H₀ G₀ Γ σ H G R D w=>?_⟩
  refine ⟨λ m σ H=>∃ Γ G,Rep X.K H₀ G₀ Γ σ H G/\Lifts X.K W H₀ G₀ (sWhileN g T m Γ) D,⟨FUEL,Γ,G,R,w⟩,λ m σ H ⟨Γ,G,R,w⟩=>?_⟩
  cases m with
  | zero=>exact w.elim
  | succ n =>
    unfold sWhileN at w
    refine q _ _ _ _ _ _ R _ (wS R w λ k w H' G' E1=>?_)
    cases k with
    | false=>exact iteF (w _ _ _ (R.after E1))
    | true =>
      refine iteT ⟨λ σ' H'=>∃ m',m' < n + 1/\∃ Γ G,Rep X.K H₀ G₀ Γ σ' H' G/\Lifts X.K W H₀ G₀ (sWhileN g T m' Γ) D,λ σ' H' h=>h,?_⟩
      refine qb _ _ _ _ _ _ (R.after E1) _ ?_
      dsimp only at w
      cases h:T Γ with
      | nx Γ'=>rw [h] at w; exact λ σ H G R=>⟨n,Nat.lt_succ_self _,Γ',G,R,w⟩
      | ct Γ'=>rw [h] at w; exact λ σ H G R=>⟨n,Nat.lt_succ_self _,Γ',G,R,w⟩
      | bk Γ'=>rw [h] at w; exact w
      | rt d=>rw [h] at w; exact w
      | ex c d=>rw [h] at w; exact w
      | no=>rw [h] at w; exact w
def gName' (i:Nat):D->Ga->Option Ga:=λ d Γ=>some (Γ.set i (.val d))
theorem tg_name (i:Nat) (hN:X.N.Nodup) (hi:X.N[i]?=some x:=by rfl) (hx:Loc X.env.scope x:=by first | exact Or.inl rfl | exact Or.inr rfl)
    (hf:X.fn x=true∨X.env.scope.names.lookup x=some .local:=by first | exact .inl rfl | exact .inr rfl | assumption):TgD X (.Name x pos) (gName' i) :=
  ⟨_,pg_name hN hi hx hf,λ H₀ G₀ Γ σ H G d v Γ' R h e Q q=>by cases e; exact q _ (R.setV i h)⟩
def gTwo (g1 g2:D->Ga->Option Ga):D->Ga->Option Ga:=λ d Γ=>match d with
  | .tup [d1,d2]=>(g1 d1 Γ).bind (g2 d2)
  | _=>none
theorem tg_two {e1 e2:Expr} {g1 g2:D->Ga->Option Ga} {k:Nat} (hc:X.calm=true) (h1:TgD X e1 g1) (h2:TgD X e2 g2)
    (hs1:(assignEach [e1,e2] X.env).map (·.2)=assign e1 X.env::(assignEach [e2] X.env).map (·.2):=by rfl) (hs2:(assignEach [e2] X.env).map (·.2)=assign e2 X.env::(assignEach [] X.env).map (·.2):=by rfl)
    (hn:(assignEach [e1,e2] X.env).length=2:=by rfl) (hst:(assignEach [e1,e2] X.env).findIdx? (·.1)=none:=by rfl) :
    TgD X (.Tuple [e1,e2] k pos) (gTwo g1 g2):=by
  obtain ⟨t1,p1,q1⟩:=h1
  obtain ⟨t2,p2,q2⟩:=h2
  refine ⟨_,pg_tup hc (pgs_cons p1 (pgs_cons p2 pgs_nil hs2) hs1) hn hst,λ H₀ G₀ Γ σ H G d v Γ' R h e' Q q=>?_⟩
  unfold gTwo at e'
  split at e'
  · rename_i d1 d2
    obtain ⟨Γ1,e1,e2⟩:=Option.bind_eq_some_iff.mp e'
    obtain ⟨a,vs,rfl,s,l⟩:=den_tup.mp h
    obtain ⟨v1,r1,rfl,l1,l⟩:=denL_cons.mp l
    obtain ⟨v2,r2,rfl,l2,l⟩:=denL_cons.mp l
    cases denL_nil.mp l
    refine ⟨a,_,rfl,Same.seqT R.gh s,rfl,v1,_,rfl,q1 _ _ _ _ _ _ _ _ _ R l1 e1 _ λ σ1 R1=>⟨v2,[],rfl,q2 _ _ _ _ _ _ _ _ _ R1 l2 e2 _ λ σ2 R2=>⟨rfl,q σ2 R2⟩⟩⟩
  · cases e'
def sTurns (g:D->Ga->Option Ga) (T:Ga->RS):List D->Ga->RS
  | [],Γ=>.nx Γ
  | d::ds,Γ=>match g d Γ with
    | none=>.no
    | some Γ1=>match T Γ1 with
      | .nx Γ'=>sTurns g T ds Γ'
      | .ct Γ'=>sTurns g T ds Γ'
      | .bk Γ'=>.nx Γ'
      | r=>r
end
def begin_ (N:List Str) (ds:List D):Ga:=ds.map Sl.val++List.replicate (N.length - ds.length) Sl.un
theorem begin_at {N:List Str} {ds:List D} {i:Nat} {x:Sl} (h:(begin_ N ds)[i]?=some x):x=.un∨∃ d,x=.val d/\ds[i]?=some d:=by
  unfold begin_ at h
  by_cases hi:i < ds.length
  · rw [List.getElem?_append_left (by simpa using hi),List.getElem?_map] at h
    obtain ⟨d',e1,e2⟩:=Option.map_eq_some_iff.mp h
    exact .inr ⟨d',e2.symm,e1⟩
  · rw [List.getElem?_append_right (by simpa using hi)] at h
    obtain ⟨_,e⟩:=List.getElem?_eq_some_iff.mp h
    rw [List.getElem_replicate] at e
    exact .inl e.symm
theorem start_at {N:List Str} {vs:List V} {i:Nat} {v:V} (h:vs[i]?=some v):(L2.start N vs)[i]?=some (some v):=by
  unfold L2.start
  rw [List.getElem?_append_left (by rw [List.length_map]; exact (List.getElem?_eq_some_iff.mp h).1),List.getElem?_map,h]
  rfl
theorem rep_begin {K:PySem.W.Frag} {H G:Hp} {N:List Str} {ds:List D} {vs:List V} (g:Same G H) (tb:TabIn K H G) (l:DenL K G ds vs):Rep K H G (begin_ N ds) (L2.start N vs) H G where
  ex:=.refl g
  tab:=tb
  ln:=by unfold begin_ L2.start; simp [l.length]
  all:=λ i x h=>by
    rcases begin_at h with rfl | ⟨d,rfl,e⟩
    · trivial
    · obtain ⟨v,e3,e4⟩:=l.get e
      exact ⟨v,start_at e3,e4⟩
  di:=λ i j x y a h _ m=>by
    rcases begin_at h with rfl | ⟨d,rfl,e⟩ <;> cases m
def callR (N:List Str) (s:Ga->RS) (ds:List D):R D:=match s (begin_ N ds) with
  | .rt d=>.ok d
  | .nx _=>.ok .non
  | .ex c _=>.ex c
  | _=>.no
section
variable {P:Program} {w:World} {K:PySem.W.Frag} {mg:Str->Option Value} {base:Heap}
end
end Wy


namespace Wy
open PySem PySem.Spec PyProof.Rows L2
def Yields (K:PySem.W.Frag) (J:It) (G:Hp) (ds:List D):Prop:=∀ (k:Nat) (H' G':Hp),Same G G'->Same G' H' ->
  (∀ d,ds[k]?=some d->J.go k H'/\∀ x H'',J.yld k H' x H''->∃ G'',Ext H' G' H'' G''/\Den K G'' d x)/\(ds.length<=k->J.stop k H')
def ItD (X:Cx) (W:XP) (tg iter:Expr) (f:Ga->R (List D)):Prop:=∃ wi,PI X tg iter wi/\∀ (H₀ G₀:Hp) (Γ:Ga) (σ:L2.St) (H G:Hp),Rep X.K H₀ G₀ Γ σ H G ->
  ∀ R:It->Hp->Prop,(f Γ).want (exAt W σ H G) (λ ds=>∀ J H' G',Ext H G H' G'->Yields X.K J G' ds->R J H')->wi σ H R
section
variable {X:Cx} {W:XP} {tg e:Expr} {f:Ga->R D} {fl:Ga->R (List D)} {pos pos':Pos} {sa:List Stmt} {T:Ga->RS}
def asL:D->Option (List D)
  | .lst ds=>some ds
  | _=>none
def asT:D->Option (List D)
  | .tup ds=>some ds
  | _=>none
theorem asL_eq {d:D} {ds:List D} (h:asL d=some ds):d=.lst ds:=by cases d <;> first | (cases h; rfl) | cases h
theorem asT_eq {d:D} {ds:List D} (h:asT d=some ds):d=.tup ds:=by cases d <;> first | (cases h; rfl) | cases h
def iL (f:Ga->R D):Ga->R (List D):=λ Γ=>(f Γ).bind λ d=>.ofO (asL d)
def iT (f:Ga->R D):Ga->R (List D):=λ Γ=>(f Γ).bind λ d=>.ofO (asT d)
theorem it_list (he:EvD X W e f):ItD X W tg e (iL f):=by
  obtain ⟨t,p,q⟩:=he
  refine ⟨_,pi_list p,λ H₀ G₀ Γ σ H G R Q w=>?_⟩
  refine q _ _ _ _ _ _ R _ (wStep w (λ _ h=>h) λ d w v H' G' E1 d1=>?_)
  obtain ⟨ds,e2,k⟩:=wOfO w
  cases asL_eq e2
  obtain ⟨a,vs,rfl,s,l⟩:=den_lst.mp d1
  refine ⟨a,rfl,⟨vs,E1.gh.seq s⟩,k _ H' G' E1 λ i H2 G2 g2 h2=>⟨λ d hd=>?_,λ hi=>⟨vs,(g2.trans h2).seq s,by rw [<- l.length]; exact hi⟩⟩⟩
  obtain ⟨v,hv,dv⟩:=l.get hd
  refine ⟨⟨vs,v,(g2.trans h2).seq s,hv⟩,λ x H3 ⟨z,y⟩=>?_⟩
  subst z
  have q:=y vs ((g2.trans h2).seq s)
  rw [hv] at q
  cases q
  exact ⟨G2,.refl h2,dv.up g2⟩
theorem it_tup (he:EvD X W e f):ItD X W tg e (iT f):=by
  obtain ⟨t,p,q⟩:=he
  refine ⟨_,pi_tup p,λ H₀ G₀ Γ σ H G R Q w=>?_⟩
  refine q _ _ _ _ _ _ R _ (wStep w (λ _ h=>h) λ d w v H' G' E1 d1=>?_)
  obtain ⟨ds,e2,k⟩:=wOfO w
  cases asT_eq e2
  obtain ⟨a,vs,rfl,s,l⟩:=den_tup.mp d1
  refine ⟨a,rfl,⟨vs,Same.seqT E1.gh s⟩,k _ H' G' E1 λ i H2 G2 g2 h2=>⟨λ d hd=>?_,λ hi=>⟨vs,Same.seqT (g2.trans h2) s,by rw [<- l.length]; exact hi⟩⟩⟩
  obtain ⟨v,hv,dv⟩:=l.get hd
  refine ⟨⟨vs,v,Same.seqT (g2.trans h2) s,hv⟩,λ x H3 ⟨z,y⟩=>?_⟩
  subst z
  have q:=y vs (Same.seqT (g2.trans h2) s)
  rw [hv] at q
  cases q
  exact ⟨G2,.refl h2,dv.up g2⟩
def rng1:List D->Option (List D)
  | [.int j]=>if -(2 ^ 62)<=j/\j < 2 ^ 62 then some ((List.range j.toNat).map λ (k:Nat)=>D.int (0 + (k:Int))) else none
  | _=>none
theorem yields_rng {K:PySem.W.Frag} {G:Hp} (lo:Int) (n:Nat):Yields K (Itr lo n) G ((List.range n).map λ (k:Nat)=>D.int (lo + (k:Int))):=by
  intro i H' G' g h
  refine ⟨λ d hd=>?_,λ hi=>by have h:=hi; simp at h; exact h⟩
  rw [List.getElem?_map] at hd
  obtain ⟨j,e1,e2⟩:=Option.map_eq_some_iff.mp hd
  obtain ⟨hi,e3⟩:=List.getElem?_eq_some_iff.mp e1
  rw [List.getElem_range] at e3
  rw [List.length_range] at hi
  subst e3
  subst e2
  refine ⟨hi,λ x H'' ⟨z,y⟩=>?_⟩
  subst z
  subst y
  exact ⟨G',.refl h,den_int⟩
def iR1 (fl:Ga->R (List D)):Ga->R (List D):=λ Γ=>(fl Γ).bind λ d=>.ofO (rng1 d)
theorem it_range1 {p:Pos} (hg:Gl X "range") (hm:X.mg "range"=none) (he:AvD X W [e] fl) (hse:starEach [e] X.env=[(false,eval e X.env)]:=by rfl):ItD X W tg (.Call (.Name "range" p) [e] [] pos) (iR1 fl):=by
  obtain ⟨t,pe,_,q⟩:=he
  refine ⟨_,pi_range1 hg hm pe hse,λ H₀ G₀ Γ σ H G R Q w=>?_⟩
  refine q _ _ _ _ _ _ R _ (wStep w (λ _ h=>h) λ d w vs H' G' E1 d1=>?_)
  obtain ⟨ds,e2,k⟩:=wOfO w
  unfold rng1 at e2
  split at e2
  · rename_i j
    split at e2
    · rename_i hj
      cases e2
      obtain ⟨v,r,rfl,da,db⟩:=denL_cons.mp d1
      cases denL_nil.mp db
      cases den_intE da
      exact ⟨j,rfl,hj.1,hj.2,k _ H' G' E1 (yields_rng 0 _)⟩
    · cases e2
  · cases e2
def sFor (fl:Ga->R (List D)) (g:D->Ga->Option Ga) (T:Ga->RS):Ga->RS:=λ Γ=>.of (fl Γ) Γ λ ds=>sTurns g T ds Γ
theorem drop_at {α:Type}:∀ {l:List α} {k:Nat} (h:k < l.length),∃ d,l[k]?=some d/\l.drop k=d::l.drop (k + 1):=λ {l k} h=>⟨l[k],List.getElem?_eq_getElem h,List.drop_eq_getElem_cons h⟩
theorem x_for {gg:D->Ga->Option Ga} (hc:X.calm=true) (he:ItD X W tg e fl) (ht:TgD X tg gg) (hb:ExDs X W sa T) (hs:∀ x,foldedSetIterable e X.env x=pure x:=by intro _; rfl) (hp:PassesOwn (model X.prog X.w) X.A X.env X.xe:=by exact PassesOwn.never) :
    ExD X W (.For tg e sa [] pos) (sFor fl gg T):=by
  obtain ⟨wi,p,q⟩:=he
  obtain ⟨t',p',q'⟩:=ht
  obtain ⟨tb,pb,qb⟩:=hb
  refine ⟨_,ps_for hp hc p p' pb hs,λ H₀ G₀ Γ σ H G R D w=>?_⟩
  refine q _ _ _ _ _ _ R _ (wS R w λ ds hr J H' G' E1 y=>?_)
  have R1:=(R.after E1).base
  have hr:=hr.base (R.after E1).ex
  refine ⟨λ k m σ H=>∃ Γ G,Rep X.K H₀ G' Γ σ H G/\Lifts X.K W H₀ G' (sTurns gg T (ds.drop k) Γ) D/\m + k=ds.length,⟨ds.length,Γ,G',R1,hr,rfl⟩,λ k m σ H ⟨Γ,G,R,hr,hm⟩=>?_⟩
  have Y:=y k H G R.ex.gg R.gh
  by_cases hk:k < ds.length
  · obtain ⟨d,hd,hdr⟩:=drop_at hk
    obtain ⟨go,yl⟩:=Y.1 d hd
    rw [hdr] at hr
    unfold sTurns at hr
    cases g1:gg d Γ with
    | none=>rw [g1] at hr; exact hr.elim
    | some Γ1 =>
      rw [g1] at hr
      dsimp only at hr
      refine .inr ⟨go,λ σ' H'=>∃ Γ G,Rep X.K H₀ G' Γ σ' H' G/\Lifts X.K W H₀ G' (sTurns gg T (ds.drop (k + 1)) Γ) D,λ σ' H' ⟨Γ,G,R,h⟩=>⟨m - 1,by omega,Γ,G,R,h,by omega⟩,λ x H2 hy=>?_⟩
      obtain ⟨G2,E2,dv⟩:=yl x H2 hy
      refine q' _ _ _ _ _ _ _ _ _ (R.after E2) dv g1 _ λ σ' R1=>?_
      refine qb _ _ _ _ _ _ R1 _ ?_
      cases h:T Γ1 with
      | nx Γ'=>rw [h] at hr; exact λ σ H G R=>⟨Γ',G,R,hr⟩
      | ct Γ'=>rw [h] at hr; exact λ σ H G R=>⟨Γ',G,R,hr⟩
      | bk Γ'=>rw [h] at hr; exact hr
      | rt d=>rw [h] at hr; exact hr
      | ex c d=>rw [h] at hr; exact hr
      | no=>rw [h] at hr; exact hr
  · have z:ds.drop k=[]:=List.drop_eq_nil_of_le (by omega)
    rw [z] at hr
    exact .inl ⟨Y.2 (by omega),hr _ _ _ R⟩
end
def dots (n:Nat):Str:=⟨Array.replicate n 46⟩
def dum (n:Nat):Str:=dots (2 * n + 3)
def accN (n:Nat):Str:=dots (2 * n + 2)
def blkN (x:Str) (N:List Str):List Str:=x::accN N.length::N.map λ y=>if y=x then dum N.length else y
def blk (X:Cx) (scope:Scope) (cl:List (Str×Addr)) (C:Addr) (x:Str) (s₀:Shared) (H₀:Hp) (ex:List Addr):Cx :=
  { X with N:=blkN x X.N,s₀:=s₀,H₀:=H₀,env:=compEnvC scope cl C X.env,outer:=X.stack,stack:=X.stack,ex:=ex,fn:=λ _=>false,pn:=[],xe:=λ _ _=>False }
structure BlkOk (X:Cx) (scope:Scope) (cl:List (Str×Addr)) (x:Str):Prop where
  kind:scope.kind=.function
  cells:∀ y∈scope.names,y.2≠.cell
  clos:closureFor scope X.env=pure cl
  names:∀ y∈scope.names,y.2=.local->scope.names.lookup y.1=some .local
  var:scope.names.lookup x=some .local
  nd:(blkN x X.N).Nodup
  cl1:∀ y c,cl.lookup y=some c->X.env.cells.lookup y=some c
  cl2:∀ y,((relabel scope X.env).names.lookup y=some .cell∨(relabel scope X.env).names.lookup y=some .free)->∃ c,cl.lookup y=some c
  acc:¬ Vis (relabel scope X.env) (accN X.N.length)
  vis:∀ y∈X.N,(if y=x then dum X.N.length else y)∈blkN x X.N->Vis (relabel scope X.env) (if y=x then dum X.N.length else y)->y≠x/\((relabel scope X.env).names.lookup y=some .cell∨(relabel scope X.env).names.lookup y=some .free)/\(X.env.kindOf y=some .cell∨X.env.kindOf y=some .free)
section
variable {X:Cx} {pins:List (Addr×Obj)} {σ:L2.St} {H:Hp} {s:Shared} {scope:Scope} {cl:List (Str×Addr)} {x:Str} {fp:List Addr}
theorem blk_ok (B:BlkOk X scope cl x) (I:Inv X pins σ H s) (hf:∀ b∈fp,FpOk X pins H b) (hfp:∀ b∈fp,b < s.heap.objs.size) {C:Addr} (hC:s.heap.objs.size<=C):(blk X scope cl C x s H fp).Ok where
  mod:=I.ok.mod
  kind:=B.kind
  glob:=I.ok.glob
  blt:=I.ok.blt
  above:=hC
  inj:=λ y z c h1 h2=>I.ok.inj y z c (B.cl1 y c h1) (B.cl1 z c h2)
  has:=λ y h=>B.cl2 y h
  cab:=λ _ _ h=>nomatch h
  hd:=I.ok.hd
  frames:=I.ok.frames
  stk:=.inl rfl
  exf:=λ b hb=>⟨Nat.ne_of_lt (Nat.lt_of_lt_of_le (hfp b hb) hC),λ y c h=>(hf b hb).2.2.2.2.1 y c (B.cl1 y c h)⟩
  bs:=I.bs
  bsz:=Nat.le_trans I.ok.bsz I.sz
  noex:=λ b o e hb=>by
    rcases (hf b hb).2.2.2.1 with z | z
    · exact I.ok.noex b o e z
    · exact absurd (Nat.lt_of_lt_of_le (Heap.lt_size e) (Nat.le_trans I.ok.bsz z)) (Nat.lt_irrefl _)
  exfs:=λ b hb z=>by
    rcases List.mem_cons.mp (I.stkSub b z) with e | e
    · exact (hf b hb).2.1 e
    · exact (hf b hb).2.2.1 e
  funs:=I.stack
  frf:=I.stkFree
theorem blk_inv (B:BlkOk X scope cl x) (I:Inv X pins σ H s) (hf:∀ b∈fp,FpOk X pins H b) (hfp:∀ b∈fp,b < s.heap.objs.size) {C Dd:Addr} {h1:Heap} {tk:Nat} {m:Str->Option Value}
    (hC:s.heap.objs.size<=C) (hD:s.heap.objs.size<=Dd) (hDC:Dd≠C) (hn:h1.Ns C m) (hd:h1.get? Dd=some { cls:=.type "list",data:=.seq #[] 0 }) (k:∀ b o,s.heap.get? b=some o->h1.get? b=some o) :
    Inv (blk X scope cl C x s H fp) [] (none::some (V.ref Dd)::σ) (upd H Dd (.lst [])) { s with heap:=h1,toks:=tk } where
  ok:=blk_ok B I hf hfp hC
  os:=rfl
  bare:=I.bare
  base:=Un.laid k hD (I.hok.fresh hD)
  loc:=by
    refine ⟨m,hn,λ i y v e1 e2 e3=>?_⟩
    match i,e1,e2 with
    | 0,e1,e2=>cases e2
    | 1,e1,e2 =>
      have e:y=accN X.N.length:=by
        have:=e1
        simp only [blk,blkN,List.getElem?_cons_succ,List.getElem?_cons_zero] at this
        exact (Option.some.inj this).symm
      subst e
      exact absurd e3 B.acc
    | i + 2,e1,e2 =>
      have e1':(X.N.map λ y=>if y=x then dum X.N.length else y)[i]?=some y:=e1
      have e2':σ[i]?=some (some v):=e2
      rw [List.getElem?_map] at e1'
      obtain ⟨z,hz,ez⟩:=Option.map_eq_some_iff.mp e1'
      subst ez
      have hmem:z∈X.N:=List.mem_of_getElem? hz
      obtain ⟨hne,hk1,hk2⟩:=B.vis z hmem (List.mem_cons_of_mem _ (List.mem_cons_of_mem _ (List.mem_map_of_mem (f:=λ y=>if y=x then dum X.N.length else y) hmem))) e3
      rw [if_neg hne]
      obtain ⟨m0,_,hl⟩:=I.loc
      obtain ⟨u,r,l⟩:=hl i z v hz e2' (hk2.elim (λ q=>.inr (.inl q)) λ q=>.inr (.inr q))
      refine ⟨u,r,.inr ⟨hk1,?_⟩⟩
      rcases l with ⟨q,_⟩ | ⟨_,c,hc,hcell⟩
      · rcases hk2 with q' | q' <;> (rw [q] at q'; cases q')
      · obtain ⟨c',hc'⟩:=B.cl2 z hk1
        have:=B.cl1 z c' hc'
        rw [hc] at this
        cases this
        obtain ⟨o,ho,hod⟩:=hcell
        exact ⟨c,hc',o,k _ _ ho,hod⟩
  cell:=λ y c h=>by
    obtain ⟨v,o,ho,hod⟩:=I.cell y c (B.cl1 y c h)
    exact ⟨v,o,k _ _ ho,hod⟩
  free:=by
    show upd H Dd (.lst []) C=none
    rw [upd_ne (Ne.symm hDC)]
    exact I.hok.fresh hC
  freeC:=λ y c h=>by
    obtain ⟨v,o,ho,hod⟩:=I.cell y c (B.cl1 y c h)
    show upd H Dd (.lst []) c=none
    rw [upd_ne (λ e=>absurd (Nat.lt_of_lt_of_le (Heap.lt_size ho) (by rw [e]; exact hD)) (Nat.lt_irrefl _))]
    exact I.freeC y c (B.cl1 y c h)
  pin:=λ p hp=>nomatch hp
  hok:=I.hok.laid k hD ⟨Nat.zero_le _,[],0,.nil,hd⟩
  len:=by
    show (none::some (V.ref Dd)::σ).length=(blkN x X.N).length
    simp [blkN,I.len]
end
theorem bind_ok' {α β:Type} {x:R α} {f:α->R β} {b:β} (h:x.bind f=.ok b):∃ a,x=.ok a/\f a=.ok b:=by
  cases x with
  | ok a=>exact ⟨a,rfl,h⟩
  | ex c=>cases h
  | no=>cases h
def compR (c:Ga->R Bool) (f:Ga->R D) (Γ:Ga):List D->R (List D)
  | []=>.ok []
  | d::ds=>(c (.val d::.un::Γ)).calm.bind λ k=>match k with
    | true=>(f (.val d::.un::Γ)).calm.bind λ y=>(compR c f Γ ds).bind λ r=>.ok (y::r)
    | false=>compR c f Γ ds
theorem compR_calm (c:Ga->R Bool) (f:Ga->R D) (Γ:Ga):∀ ds x,compR c f Γ ds≠.ex x
  | [],x,h=>by cases h
  | d::ds,x,h=>by
    unfold compR at h
    cases h1:c (.val d::.un::Γ) with
    | ok k =>
      rw [h1] at h
      cases k with
      | false=>exact compR_calm c f Γ ds x h
      | true =>
        simp only [calm_of_ok,R.bind_ok] at h
        cases h2:f (.val d::.un::Γ) with
        | ok y =>
          rw [h2] at h
          simp only [calm_of_ok,R.bind_ok] at h
          cases h3:compR c f Γ ds with
          | ok r=>rw [h3] at h; cases h
          | ex z=>exact compR_calm c f Γ ds z h3
          | no=>rw [h3] at h; cases h
        | ex z=>rw [h2] at h; cases h
        | no=>rw [h2] at h; cases h
    | ex z=>rw [h1] at h; cases h
    | no=>rw [h1] at h; cases h
def TsD (X:Cx) (ifs:List Expr) (c:Ga->R Bool):Prop :=
  ∀ (pins:List (Addr×Obj)) (s:Shared) (σ:L2.St) (H:Hp) (H₀ G₀:Hp) (Γ:Ga) (G:Hp) (b:Bool),Inv X pins σ H s->Rep X.K H₀ G₀ Γ σ H G->c Γ=.ok b ->
    wpAny (model X.prog X.w) X.A (forIn ifs true λ t r=>if r=true then do let ok <- isTrue t X.env (eval t X.env); pure (ForInStep.yield ok) else pure (ForInStep.yield r)) (λ ok s'=>ok=b/\∃ H' G',Inv X pins σ H' s'/\Ext H G H' G') X.xe s
def cTrue:Ga->R Bool:=λ _=>.ok true
theorem ts_nil {X:Cx}:TsD X [] cTrue:=λ pins s σ H H₀ G₀ Γ G b I R e=>by
  cases e
  exact wpAny_tests_nil ⟨rfl,H,G,I,.refl R.gh⟩
theorem ts_one {X:Cx} {t:Expr} {c:Ga->R Bool} (h:TvD X XP0 t c):TsD X [t] c:=λ pins s σ H H₀ G₀ Γ G b I R e=>by
  obtain ⟨tt,p,q⟩:=h
  refine wpAny_tests_one (thn (p pins s σ H (λ k H'=>k=b/\∃ G',Ext H G H' G') I (q _ _ _ _ _ _ R _ (by rw [e]; exact λ H' G' E1=>⟨rfl,G',E1⟩))) λ ok s' ⟨H',I',e',G',E1⟩=>⟨e',H',G',I',E1⟩)
section
variable {prog:Program} {w:World} {A:Around} {R:Result->Shared->Prop} {s:Shared}
theorem compLoop_own {elt target iter:Expr} {ifs:List Expr} {scope:Scope} {pos:Pos} {it acc:Value} {env:Env} (I:Nat->Shared->Prop)
    (turn:∀ n s,I n s->wpAny (model prog w) A (pyNext it) (λ r s₁=>match r with
      | none=>R (.ok .next) s₁
      | some v=>wpAny (model prog w) A (letOwnedTupleGo target it v) (λ _ s₁=>wpAny (model prog w) A (assign target env v) (λ _ s₂ =>
          wpAny (model prog w) A (forIn ifs true λ c r=>if r=true then do let ok <- isTrue c env (eval c env); pure (ForInStep.yield ok) else pure (ForInStep.yield r)) (λ ok s₃ =>
            if ok=true then wpAny (model prog w) A (eval elt env) (λ x s₄ =>
              wpAny (model prog w) A (call (.builtin "list.append") [acc,x]) (λ _ s₅=>∃ m,m < n/\I m s₅) (λ _ _=>False) s₄) (λ _ _=>False) s₃
            else ∃ m,m < n/\I m s₃) (λ _ _=>False) s₂) (λ _ _=>False) s₁) (λ _ _=>False) s₁) (λ _ _=>False) s)
    (n:Nat) (h:I n s) :
    codeAny (model prog w) A (.compLoop (.ListComp elt [⟨target,iter,ifs,0⟩] scope pos) 0 it acc env) R s:=by
  refine codeAny_loop rfl I (λ n s hI=>?_) n h
  show wpAny _ A ((compTurn (.ListComp elt [⟨target,iter,ifs,0⟩] scope pos) 0 it acc env).onRaise (λ x=>do noteFrame x env; theTreesLotGoes x)) _ _ s
  refine wpAny_noted ?_
  rw [compTurn_list]
  refine wpAny_bind (wpAny_standAt (wpAny_bind (wpAny_mono (turn n s hI) (λ r s₁ h₁=>?_) λ _ _ h'=>h'.elim)))
  cases r with
  | none=>exact wpAny_pure h₁
  | some v =>
    refine wpAny_bind (wpAny_mono h₁ (λ _ s₁ h₁=>?_) λ _ _ h'=>h'.elim)
    refine wpAny_bind (wpAny_mono h₁ (λ _ s₂ h₂=>wpAny_bind (wpAny_mono h₂ (λ ok s₃ h₃=>?_) λ _ _ h'=>h'.elim)) λ _ _ h'=>h'.elim)
    cases ok with
    | false=>exact wpAny_pure ⟨rfl,h₃⟩
    | true =>
      exact wpAny_bind (wpAny_bind (wpAny_mono h₃ (λ x s₄ h₄=>wpAny_bind (wpAny_mono h₄ (λ _ s₅ h₅=>wpAny_pure (wpAny_pure ⟨rfl,h₅⟩)) λ _ _ h'=>h'.elim)) λ _ _ h'=>h'.elim))
end
theorem Rep.consUn {K:PySem.W.Frag} {H₀ G₀ H G:Hp} {Γ:Ga} {σ:L2.St} (R:Rep K H₀ G₀ Γ σ H G) (o:Option V):Rep K H₀ G₀ (.un::Γ) (o::σ) H G where
  ex:=R.ex
  tab:=R.tab
  ln:=by simp [R.ln]
  all:=λ i x h=>by
    cases i with
    | zero=>cases h; trivial
    | succ i=>exact R.all i x (by simpa using h)
  di:=λ i j x y a h1 h2 m1 m2 h3 h4=>by
    cases i with
    | zero=>cases h1; cases m1
    | succ i =>
      cases j with
      | zero=>cases h2; cases m2
      | succ j=>exact congrArg (· + 1) (R.di i j x y a (by simpa using h1) (by simpa using h2) m1 m2 (by simpa using h3) (by simpa using h4))
section
variable {X:Cx} {pins:List (Addr×Obj)} {σ:L2.St} {H H₀ G₀ G:Hp} {Γ:Ga} {s:Shared} {scope:Scope} {cl:List (Str×Addr)} {x:Str} {px pos:Pos} {fp:List Addr} {elt iter:Expr} {ifs:List Expr} {c:Ga->R Bool} {f:Ga->R D}
theorem comp_core {J:It} {it:Addr} {tn:Nat->Heap->Prop} {ds outs:List D} {E:Value->Shared->Prop} (B:BlkOk X scope cl x) (hcalm:X.calm=true) (I:Inv X pins σ H s) (R:Rep X.K H₀ G₀ Γ σ H G)
    (T:Turn X.prog X.w X.K (.Name x px) J fp it tn) (st:tn 0 s.heap) (hf:∀ b∈fp,FpOk X pins H b) (Y:Yields X.K J G ds)
    (hT:∀ C,TsD (blk X scope cl C x s H fp) ifs c) (hE:∀ C,EvD (blk X scope cl C x s H fp) XP0 elt f) (hc:compR c f Γ ds=.ok outs) (hlen:ds.length < 16000000)
    {RR:Value->Addr->Result->Shared->Prop}
    (hRR:∀ Dd C s' H' G' vs m,s'.os=s.os->AllBare s'.gens->Un (frs X.stack) fp H H' s.heap s'.heap->HOk X.prog X.w H' s'.heap->s.heap.objs.size<=C->H' C=none->s'.heap.Ns C m ->
      Ext H G H' G'->H Dd=none->H' Dd=some (.lst vs)->G' Dd=none->DenL X.K G' outs vs->RR (.ref Dd) C (.ok .next) s') :
    wpAny (model X.prog X.w) X.A (newList []) (λ acc s₃=>wpAny (model X.prog X.w) X.A (newFunctionEnv scope X.env.globals cl [] X.env.qual none .none (some X.env)) (λ cenv s₄ =>
      codeAny (model X.prog X.w) X.A (.compStart (.ListComp elt [⟨.Name x px,iter,ifs,0⟩] scope pos) 0 (.ref it) acc { cenv with scope:=relabel scope X.env }) (RR acc cenv.locals) s₄) E s₃) E s:=by
  have hfp:∀ b∈fp,b < s.heap.objs.size:=λ b hb=>by
    obtain ⟨o,e,_⟩:=T.obj 0 _ st b hb
    exact Heap.lt_size e
  refine wpAny_newObj_type (wpAny_newFunctionEnv B.cells (by intro y hy; simp at hy) (λ h₁ hns₁ hsb₁=>?_) B.kind)
  dsimp only at hns₁ hsb₁ ⊢
  generalize hH2:s.heap.push { cls:=.type "list",dict:=none,data:=.seq ([]:List Value).toArray }=H2 at hns₁ hsb₁ ⊢
  have hC:H2.objs.size=s.heap.objs.size + 1:=by rw [<- hH2,Heap.size_push]
  have hDC:s.heap.objs.size≠H2.objs.size:=by rw [hC]; exact Nat.ne_of_lt (Nat.lt_succ_self _)
  have hCle:s.heap.objs.size<=H2.objs.size:=by rw [hC]; exact Nat.le_succ _
  have old:∀ b o,s.heap.get? b=some o->h₁.get? b=some o:=λ b o e=>hsb₁.extBut b o (by rw [hC]; exact Nat.ne_of_lt (Nat.lt_succ_of_lt (Heap.lt_size e))) (Heap.get?_push_of_some _ (hH2 ▸ Heap.get?_push_of_some _ e))
  have hacc:h₁.get? s.heap.objs.size=some { cls:=.type "list",data:=.seq #[] 0 }:=hsb₁.extBut _ _ hDC (Heap.get?_push_of_some _ (hH2 ▸ Heap.get?_push_size _ rfl))
  have I0:=blk_inv (tk:=s.toks + ([]:List (Str×Value)).length) B I hf hfp hCle (Nat.le_refl _) hDC hns₁ hacc old
  have hp:H s.heap.objs.size=none:=I.fresh
  have E0:Ext H G (upd H s.heap.objs.size (.lst [])) G:=.own R.gh hp _
  have R0:Rep X.K H₀ G₀ (.un::.own []::Γ) (none::some (V.ref s.heap.objs.size)::σ) (upd H s.heap.objs.size (.lst [])) G:=by
    have r1:=((R.after E0).consUn (some (V.ref s.heap.objs.size)))
    have r2:=r1.setO 0 (xs:=[]) (a:=s.heap.objs.size) (vs:=[]) upd_same (R.ex.hh.free hp) (R.gh.free hp) (denL_nil.mpr rfl) (λ j ys hj hy hm hs=>?_)
    · exact r2.consUn none
    · cases j with
      | zero=>exact hj rfl
      | succ j =>
        obtain ⟨a,us,s1,s2,_⟩:=R.at (i:=j) (x:=ys) (by simpa using hy) hm
        have hs':σ[j]?=some (some (V.ref s.heap.objs.size)):=by simpa using hs
        rw [hs'] at s1
        cases s1
        rw [hp] at s2
        cases s2
  generalize hX:blk X scope cl H2.objs.size x s H fp=X' at I0
  have eK:X'.K=X.K:=by rw [<- hX]; rfl
  have eP:X'.prog=X.prog:=by rw [<- hX]; rfl
  have eW:X'.w=X.w:=by rw [<- hX]; rfl
  have eA:X'.A=X.A:=by rw [<- hX]; rfl
  have eE:X'.env=compEnvC scope cl H2.objs.size X.env:=by rw [<- hX]; rfl
  have eX:X'.xe=λ _ _=>False:=by rw [<- hX]; rfl
  have eN:X'.N=blkN x X.N:=by rw [<- hX]; rfl
  have eF:X'.fs=frs X.stack:=by rw [<- hX]; rfl
  have eCa:X'.calm=true:=by rw [<- hX]; exact hcalm
  have hT':TsD X' ifs c:=hX ▸ hT _
  have hE':EvD X' XP0 elt f:=hX ▸ hE _
  have fpok:∀ {H':Hp},(∀ b∈fp,H' b=none)->∀ b∈fp,FpOk X' [] H' b:=λ hn b hb=>by
    refine ⟨hn b hb,?_,?_,.inl (by rw [<- hX]; exact hb),?_,λ p hp=>by rw [<- hX] at hp; exact nomatch hp⟩
    · rw [<- hX]; exact Nat.ne_of_lt (Nat.lt_of_lt_of_le (hfp b hb) hCle)
    · rw [eF]
      intro z
      rcases List.mem_cons.mp (I.stkSub b z) with e | e
      · exact (hf b hb).2.1 e
      · exact (hf b hb).2.2.1 e
    · rw [eE]; exact λ y c' h=>(hf b hb).2.2.2.2.1 y c' (B.cl1 y c' h)
  obtain ⟨te,pe,qe⟩:=hE'
  have pg:PG X' (.Name x px) (gName 0):=pg_name (by rw [eN]; exact B.nd) (by rw [eN]; rfl) (by rw [eE]; exact .inl (lookup_relabel_local B.var)) (by rw [eE]; exact .inr (lookup_relabel_local B.var))
  have loop:∀ s₃:Shared,s₃={ s with heap:=h₁,toks:=s.toks + ([]:List (Str×Value)).length } ->
      codeAny (model X.prog X.w) X.A (.compLoop (.ListComp elt [⟨.Name x px,iter,ifs,0⟩] scope pos) 0 (.ref it) (.ref s.heap.objs.size) (compEnvC scope cl H2.objs.size X.env)) (RR (.ref s.heap.objs.size) H2.objs.size) s₃:=by
    rintro s₃ rfl
    refine compLoop_own (λ n s'=>∃ (k:Nat) (sl:Sl) (o:Option V) (H' G':Hp) (dn rs:List D),Inv X' [] (o::some (V.ref s.heap.objs.size)::σ) H' s'/\tn k s'.heap/\(∀ b∈fp,H' b=none) /\
      Rep X.K H₀ G₀ (sl::.own dn::Γ) (o::some (V.ref s.heap.objs.size)::σ) H' G'/\Ext H G H' G'/\compR c f Γ (ds.drop k)=.ok rs/\dn++rs=outs/\dn.length<=k/\k<=ds.length/\n + k=ds.length) ?_ ds.length
      ⟨0,.un,none,_,G,[],outs,I0,T.keep _ _ _ st (λ b hb o e=>old b o e),λ b hb=>by
        rw [upd_ne (Nat.ne_of_lt (hfp b hb))]; exact (hf b hb).1,R0,E0,hc,rfl,Nat.zero_le _,Nat.zero_le _,rfl⟩
    rintro n s' ⟨k,sl,o,H',G',dn,rs,I',st',fr',R',E',hc',ho,hdn,hkl,hn⟩
    have Yk:=Y k H' G' E'.gg E'.gh
    by_cases hk:k < ds.length
    · obtain ⟨d,hd,hdr⟩:=drop_at hk
      obtain ⟨go,yl⟩:=Yk.1 d hd
      rw [hdr] at hc'
      have it1:=T.item X' eP eW eK eCa k [] s' _ H' (λ _ _=>False) I' (fpok fr') st' go
      rw [eA] at it1
      refine wpAny_mono it1 (λ r s1 ⟨u,hr,h4⟩=>?_) λ _ _ z=>z
      subst hr
      refine wpAny_mono h4 (λ _ s5 ⟨xv,H5,I5,r5,y5,st5,fr5⟩=>?_) λ _ _ z=>z
      obtain ⟨G5,E5,d5⟩:=yl xv H5 y5
      have I5':=I5.pinned (fpok fr5) (T.obj _ _ st5)
      have R5:=R'.after E5
      have asg:=pg _ s5 _ H5 xv u (λ σ' H'=>σ'=some xv::some (V.ref s.heap.objs.size)::σ/\H'=H5) I5' r5 ⟨rfl,rfl⟩
      rw [eP,eW,eA,eE,eX] at asg
      refine wpAny_mono asg (λ _ s6 ⟨σ6,H6,I6,q6,q6'⟩=>?_) λ _ _ z=>z
      subst q6 q6'
      have R6:Rep X.K H₀ G₀ (.val d::.own dn::Γ) (some xv::some (V.ref s.heap.objs.size)::σ) H6 G5:=R5.setV 0 d5
      have R6u:Rep X'.K H₀ G₀ (.val d::.un::Γ) (some xv::some (V.ref s.heap.objs.size)::σ) H6 G5:=by
        rw [eK]
        refine R6.weak rfl λ i y h=>?_
        match i,h with
        | 0,h=>exact .inr h
        | 1,h=>cases h; exact .inl rfl
        | i + 2,h=>exact .inr h
      unfold compR at hc'
      obtain ⟨kb,ec,hc'⟩:=bind_ok' hc'
      have ec:=calm_ok ec
      have tst:=hT' _ s6 _ H6 _ _ _ _ _ I6 R6u ec
      rw [eP,eW,eA,eE,eX] at tst
      refine wpAny_mono tst (λ ok s7 ⟨hok,H7,G7,I7,E7⟩=>?_) λ _ _ z=>z
      subst hok
      have R7:=R6.after E7
      have back:∀ {s8:Shared} {H8:Hp} {G8:Hp} {dn' rs':List D},Inv X' (([]:List (Addr×Obj))++pinsAt fp s5.heap) (some xv::some (V.ref s.heap.objs.size)::σ) H8 s8->Rep X.K H₀ G₀ (.val d::.own dn'::Γ) (some xv::some (V.ref s.heap.objs.size)::σ) H8 G8->Ext H G H8 G8 ->
          compR c f Γ (ds.drop (k + 1))=.ok rs'->dn'++rs'=outs->dn'.length<=k + 1->∃ m,m < n/\∃ (k:Nat) (sl:Sl) (o:Option V) (H' G':Hp) (dn rs:List D),Inv X' [] (o::some (V.ref s.heap.objs.size)::σ) H' s8/\tn k s8.heap/\(∀ b∈fp,H' b=none) /\
            Rep X.K H₀ G₀ (sl::.own dn::Γ) (o::some (V.ref s.heap.objs.size)::σ) H' G'/\Ext H G H' G'/\compR c f Γ (ds.drop k)=.ok rs/\dn++rs=outs/\dn.length<=k/\k<=ds.length/\m + k=ds.length:=λ {s8 H8 G8 dn' rs'} I8 R8 E8 c8 o8 l8=>by
        refine ⟨n - 1,by omega,k + 1,_,_,H8,G8,dn',rs',I8.unpinned,T.keep _ _ _ st5 λ b hb o e=>(I8.pin (b,o) (List.mem_append_right _ (List.mem_append_right _ (mem_pinsAt hb e)))).1,λ b hb=>?_,R8,E8,c8,o8,l8,by omega,by omega⟩
        obtain ⟨o,e,_⟩:=T.obj _ _ st5 b hb
        exact (I8.pin (b,o) (List.mem_append_right _ (List.mem_append_right _ (mem_pinsAt hb e)))).2.1
      have E57:Ext H G H7 G7:=E'.trans (E5.trans E7)
      cases ok with
      | false =>
        rw [if_neg Bool.false_ne_true]
        exact back I7 R7 E57 hc' ho (by omega)
      | true =>
        rw [if_pos rfl]
        obtain ⟨y,ey,hc'⟩:=bind_ok' hc'
        have ey:=calm_ok ey
        obtain ⟨r',er,hc'⟩:=bind_ok' hc'
        cases hc'
        have R7u:=R6u.after E7
        have ev:=pe _ s7 _ H7 (λ v H8=>∃ G8,Ext H7 G7 H8 G8/\Den X'.K G8 y v) I7 (qe _ _ _ _ _ _ R7u _ (by rw [ey]; exact λ v H8 G8 E8 d8=>⟨G8,E8,d8⟩))
        rw [eP,eW,eA,eE,eX] at ev
        refine wpAny_mono ev (λ yv s8 ⟨v8,H8,I8,r8,G8,E8,d8⟩=>?_) λ _ _ z=>z
        rw [eK] at d8
        have R8:=R7.after E8
        obtain ⟨a,vs,q1,q2,q3,q4,q5⟩:=R8.ow 1 dn rfl
        cases q1
        have ap:=mt_append (X:=X') _ s8 _ H8 (.ref s.heap.objs.size) [v8] _ _ (λ v H9=>v=.non/\H9=upd H8 s.heap.objs.size (.lst (vs++[v8]))) I8 rfl (.cons r8 .nil) ⟨_,vs,v8,rfl,rfl,q2,by rw [<- q5.length]; exact lt24 (by omega),rfl,rfl⟩
        rw [eP,eW,eA,eX] at ap
        refine wpAny_mono ap (λ _ s9 ⟨_,H9,I9,_,_,q9⟩=>?_) λ _ _ z=>z
        subst q9
        have tbl:Tbs H (upd H8 s.heap.objs.size (.lst (vs++[v8]))) G8:=λ b ps q=>by
          obtain ⟨ps',h1,h2⟩:=(E57.trans E8).tb b ps q
          exact ⟨ps',by rw [upd_ne (λ z=>by rw [z,hp] at q; cases q)]; exact h1,h2⟩
        refine back I9 (R8.mut (i:=1) rfl rfl (q5.append (.one d8))) ⟨(E57.trans E8).gg,λ b o q=>?_,⟨λ b o q n=>?_,λ b ps q=>let ⟨ps',h,_⟩:=tbl b ps q; ⟨ps',h⟩⟩,(E57.trans E8).fr,tbl⟩ er (by rw [List.append_assoc]; exact ho) (by rw [List.length_append,List.length_singleton]; omega)
        · rw [upd_ne (λ z=>by rw [z,q4] at q; cases q)]; exact E8.gh b o q
        · rw [upd_ne (λ z=>by rw [z,hp] at q; cases q)]; exact (E57.trans E8).hh.nt b o q n
    · have z:ds.drop k=[]:=List.drop_eq_nil_of_le (by omega)
      rw [z] at hc'
      cases hc'
      rw [List.append_nil] at ho
      subst ho
      have dn1:=T.done X' eP eW eK eCa k [] s' _ H' (λ _ _=>False) I' (fpok fr') st' (Yk.2 (by omega))
      rw [eA] at dn1
      refine wpAny_mono dn1 (λ r s1 ⟨hr,I1⟩=>?_) λ _ _ z=>z
      subst hr
      obtain ⟨a,vs,q1,q2,q3,q4,q5⟩:=R'.ow 1 dn rfl
      cases q1
      obtain ⟨m,hm,_⟩:=I1.loc
      have base:=I1.base
      rw [eF] at base
      refine hRR s.heap.objs.size H2.objs.size s1 H' G' vs m ?_ I1.bare ?_ ?_ hCle ?_ ?_ E' hp q2 q4 q5
      · have:=I1.os; rw [<- hX] at this; exact this
      · rw [<- hX] at base; exact base
      · have:=I1.hok; rw [eP,eW] at this; exact this
      · have:=I1.free; rw [eE] at this; exact this
      · rw [eE] at hm; exact hm
  exact codeAny_compStart_list (loop _ rfl) (T.self _ 0 _ _ _ (T.keep _ _ _ st λ b hb o e=>old b o e) (loop _ rfl))
end
section
variable {X:Cx} {scope:Scope} {cl:List (Str×Addr)} {x y:Str} {px py pos spos:Pos} {elt iter:Expr} {ifs:List Expr} {c:Ga->R Bool} {f:Ga->R D} {fl:Ga->R (List D)}
def cpR (fl:Ga->R (List D)) (c:Ga->R Bool) (f:Ga->R D):Ga->R (List D):=λ Γ=>(fl Γ).bind λ ds=>if ds.length < 16000000 then compR c f Γ ds else .no
theorem cp_want {Γ:Ga} {ds:List D} {E:Str->Prop} {P:List D->Prop} (h:R.want (if ds.length < 16000000 then compR c f Γ ds else .no) E P):∃ outs,ds.length < 16000000/\compR c f Γ ds=.ok outs/\P outs:=by
  split at h
  · rename_i hl
    cases q:compR c f Γ ds with
    | ok outs=>rw [q] at h; exact ⟨outs,hl,rfl,h⟩
    | ex z=>exact absurd q (compR_calm c f Γ ds z)
    | no=>rw [q] at h; exact h.elim
  · exact h.elim
theorem after_block {pins:List (Addr×Obj)} {σ:L2.St} {H H':Hp} {s s':Shared} {fp:List Addr} (I:Inv X pins σ H s) (hf:∀ b∈fp,FpOk X pins H b) (os:s'.os=s.os) (bare:AllBare s'.gens) (un:Un (frs X.stack) fp H H' s.heap s'.heap) (hok:HOk X.prog X.w H' s'.heap):Inv X pins σ H' s' :=
  I.call' (ch:=fp) os un hok bare λ b hb=>⟨(hf b hb).2.2.2.1,(hf b hb).2.1,(hf b hb).2.2.2.2.1,(hf b hb).2.2.2.2.2⟩
theorem turned_C {pins:List (Addr×Obj)} {σ:L2.St} {H H':Hp} {s s':Shared} {σ':L2.St} {C:Addr} {h'':Heap} (I:Inv X pins σ H s) (I':Inv X pins σ' H' s') (hC:s.heap.objs.size<=C) (hCn:H' C=none) (hsb:Heap.SameBut C s'.heap h''):Inv X pins σ' H' { s' with heap:=h'' }:=by
  have q:=I.fpOk (H':=H') hC hCn
  exact I'.turned (it:=C) (t':=s'.toks) (λ b o hb e=>(hsb.2 b hb).trans e) hCn q.2.1 q.2.2.2.1 q.2.2.2.2.1 q.2.2.2.2.2
theorem ow_comp {W:XP} (B:BlkOk X scope cl x) (hcalm:X.calm=true) (hi:ItD X W (.Name x px) iter fl) (hT:∀ C s H fp,TsD (blk X scope cl C x s H fp) ifs c) (hE:∀ C s H fp,EvD (blk X scope cl C x s H fp) XP0 elt f)
    (hs:∀ x,foldedSetIterable iter X.env x=pure x:=by intro _; rfl):OwD X W (.ListComp elt [⟨.Name x px,iter,ifs,0⟩] scope pos) (cpR fl c f):=by
  obtain ⟨wi,pI,qI⟩:=hi
  refine ⟨λ σ H Q=>∃ (H₀ G₀:Hp) (Γ:Ga) (G:Hp),Rep X.K H₀ G₀ Γ σ H G/\(cpR fl c f Γ).want (exAt W σ H G) λ outs=>∀ p vs H' G',Ext H G H' G'->H p=none->H' p=some (.lst vs)->G' p=none->DenL X.K G' outs vs->Q (.ref p) H',?_,λ H₀ G₀ Γ σ H G R Q w=>⟨H₀,G₀,Γ,G,R,w⟩⟩
  rintro pins s σ H Q I ⟨H₀,G₀,Γ,G,R,w⟩
  rw [eval_ListComp]
  refine wpAny_comprehension_free (use:=none) rfl hs B.clos B.kind B.names ?_
  have h1:=pI pins s σ H (λ J H'=>∃ G' ds outs,Ext H G H' G'/\Yields X.K J G' ds/\ds.length < 16000000/\compR c f Γ ds=.ok outs/\∀ p vs H' G',Ext H G H' G'->H p=none->H' p=some (.lst vs)->G' p=none->DenL X.K G' outs vs->Q (.ref p) H') I
    (qI _ _ _ _ _ _ R _ (wStep w (λ _ h=>h) λ ds w J H' G' E1 y=>let ⟨outs,hl,e2,k⟩:=cp_want w; ⟨G',ds,outs,E1,y,hl,e2,k⟩))
  refine thn h1 λ xv s1 h1=>thn h1 λ itv s2 ⟨it,fp,tn,J,H2,e,I2,T,st,hf,G2,ds,outs,E2,y2,hl,e2,k⟩=>?_
  subst e
  refine comp_core (RR:=λ acc C=>compPost (model X.prog X.w) X.A X.xe none (EP X pins σ Q) acc C) B hcalm I2 (R.after E2) T st hf y2 (λ C=>hT _ _ _ _) (λ C=>hE _ _ _ _) e2 hl ?_
  intro Dd C s' H' G' vs m os bare un hok hC hCn hns E' hp h' g' l
  refine ⟨m,hns,λ h'' hsb=>?_⟩
  have I3:=turned_C I2 (after_block I2 hf os bare un hok) hC hCn hsb
  exact ⟨.ref Dd,H',I3,rfl,k Dd vs H' G' (E2.trans E') (E2.hh.free hp) h' g' l⟩
theorem x_setComp {W:XP} (i:Nat) (B:BlkOk X scope cl x) (hcalm:X.calm=true) (hi:ItD X W (.Name x px) iter fl) (hT:∀ C s H fp,TsD (blk X scope cl C x s H fp) ifs c) (hE:∀ C s H fp,EvD (blk X scope cl C x s H fp) XP0 elt f)
    (hN:X.N.Nodup) (hy:X.N[i]?=some y:=by rfl) (hx:Loc X.env.scope y:=by first | exact Or.inl rfl | exact Or.inr rfl)
    (hsw:swapsWith (.ListComp elt [⟨.Name x px,iter,ifs,0⟩] scope pos) (some (.Name y py)) spos.line X.env=pure true:=by rfl)
    (hf':X.fn y=true∨X.env.scope.names.lookup y=some .local:=by first | exact .inl rfl | exact .inr rfl | assumption)
    (hs:∀ x,foldedSetIterable iter X.env x=pure x:=by intro _; rfl):ExD X W (.Assign [.Name y py] (.ListComp elt [⟨.Name x px,iter,ifs,0⟩] scope pos) spos) (sSetO i (cpR fl c f)):=by
  obtain ⟨wi,pI,qI⟩:=hi
  refine ⟨λ DD σ H=>∃ (H₀ G₀:Hp) (Γ:Ga) (G:Hp),Rep X.K H₀ G₀ Γ σ H G/\(cpR fl c f Γ).want (exAt W σ H G) λ outs=>∀ p vs H' G',Ext H G H' G'->H p=none->H' p=some (.lst vs)->G' p=none->DenL X.K G' outs vs->DD.nx (σ.set i (some (.ref p))) H',?_,?_⟩
  · rintro pins s σ H D I ⟨H₀,G₀,Γ,G,R,w⟩
    rw [exec_Assign_Name_used _ _ _ _ hsw]
    refine wpAny_bind (wpAny_standAt (wpAny_bind ?_))
    show wpAny _ X.A (do let _ <- comprehension (.ListComp elt [⟨.Name x px,iter,ifs,0⟩] scope pos) scope X.env _ (newList []) false (eval iter X.env) (some (assign (.Name y py) X.env))) _ _ s
    refine wpAny_bind (wpAny_mono (wpAny_comprehension_free (use:=some (assign (.Name y py) X.env)) (Q:=λ _ s'=>SP X pins D .next s') rfl hs B.clos B.kind B.names ?_) (λ _ s' hq=>wpAny_pure (wpAny_pure hq)) λ _ _ e=>e)
    have h1:=pI pins s σ H (λ J H'=>∃ G' ds outs,Ext H G H' G'/\Yields X.K J G' ds/\ds.length < 16000000/\compR c f Γ ds=.ok outs/\∀ p vs H' G',Ext H G H' G'->H p=none->H' p=some (.lst vs)->G' p=none->DenL X.K G' outs vs->D.nx (σ.set i (some (.ref p))) H') I
      (qI _ _ _ _ _ _ R _ (wStep w (λ _ h=>h) λ ds w J H' G' E1 y=>let ⟨outs,hl,e2,k⟩:=cp_want w; ⟨G',ds,outs,E1,y,hl,e2,k⟩))
    refine thn h1 λ xv s1 h1=>thn h1 λ itv s2 ⟨it,fp,tn,J,H2,e,I2,T,st,hf,G2,ds,outs,E2,y2,hl,e2,k⟩=>?_
    subst e
    refine comp_core (RR:=λ acc C=>compPost (model X.prog X.w) X.A X.xe (some (assign (.Name y py) X.env)) (λ _ s'=>SP X pins D .next s') acc C) B hcalm I2 (R.after E2) T st hf y2 (λ C=>hT _ _ _ _) (λ C=>hE _ _ _ _) e2 hl ?_
    intro Dd C s' H' G' vs m os bare un hok hC hCn hns E' hp h' g' l
    have I3:=after_block I2 hf os bare un hok
    show wpAny _ X.A (assign (.Name y py) X.env (.ref Dd)) _ _ _
    refine wpAny_assign_Name (store_ok2 (v:=.ref Dd) I3 hN hy hx rfl (λ s4 I4 ⟨a,hsa,ha⟩=>?_) hf')
    have nC:C≠a:=λ z=>by
      subst z
      rcases ha with z | z
      · exact absurd (Nat.lt_of_lt_of_le I2.lt (by rw [<- z]; exact hC)) (Nat.lt_irrefl _)
      · obtain ⟨v,q⟩:=I2.cell y _ z
        exact absurd (Nat.lt_of_lt_of_le q.lt hC) (Nat.lt_irrefl _)
    refine ⟨m,hns.sameBut hsa nC,λ h'' hsb=>?_⟩
    exact ⟨_,H',turned_C I2 I4 hC hCn hsb,k Dd vs H' G' (E2.trans E') (E2.hh.free hp) h' g' l⟩
  · intro H₀ G₀ Γ σ H G R D w
    refine ⟨H₀,G₀,Γ,G,R,wS R w λ outs w p vs H' G' E1 hp h' g' l=>?_⟩
    exact w _ H' G' ((R.after E1).setO i h' (R.ex.hh.free hp) g' l λ j ys hj hy=>own_new R hp j ys hy)
end
end Wy


namespace HT
open PySem PySem.Spec PyProof.Rows L2
section
variable {prog:Program} {w:World} {A:Around} {E:Value->Shared->Prop} {s:Shared}
end
end HT
namespace Wy
open PySem PySem.Spec PyProof.Rows L2
section
variable {X:Cx}
end
end Wy


namespace Wy
open PySem PySem.Spec PyProof.Rows L2
def int2 (g:Int->Int->Option D):D->D->Option D
  | .int i,.int j=>g i j
  | _,_=>none
theorem int2_some {g:Int->Int->Option D} {d1 d2 d:D} (h:int2 g d1 d2=some d):∃ i j,d1=.int i/\d2=.int j/\g i j=some d:=by
  cases d1 <;> cases d2 <;> first | exact ⟨_,_,rfl,rfl,h⟩ | cases h
def mulI (i j:Int):Option D:=if (-(2 ^ 64) < i/\i < 2 ^ 64)∨(-(2 ^ 64) < j/\j < 2 ^ 64) then some (.int (i * j)) else none
def modI (i j:Int):Option D:=if 0 < j then some (.int (i % j)) else none
section
variable {X:Cx}
theorem opd_add:OpD X (binaryOp .Add) (int2 λ i j=>some (.int (i + j))):=⟨_,op_add,λ H G x y d1 d2 d g h1 h2 e Q q=>by
  obtain ⟨i,j,rfl,rfl,e⟩:=int2_some e
  cases e
  exact ⟨i,j,den_intE h1,den_intE h2,q _ H G (.refl g) den_int⟩⟩
theorem opd_sub:OpD X (binaryOp .Sub) (int2 λ i j=>some (.int (i - j))):=⟨_,op_sub,λ H G x y d1 d2 d g h1 h2 e Q q=>by
  obtain ⟨i,j,rfl,rfl,e⟩:=int2_some e
  cases e
  exact ⟨i,j,den_intE h1,den_intE h2,q _ H G (.refl g) den_int⟩⟩
theorem opd_mul:OpD X (binaryOp .Mult) (int2 mulI):=⟨_,op_mul,λ H G x y d1 d2 d g h1 h2 e Q q=>by
  obtain ⟨i,j,rfl,rfl,e2⟩:=int2_some e
  clear e
  unfold mulI at e2
  split at e2
  · rename_i hc
    cases e2
    exact ⟨i,j,den_intE h1,den_intE h2,hc,q _ H G (.refl g) den_int⟩
  · cases e2⟩
theorem opd_mod:OpD X (binaryOp .Mod) (int2 modI):=⟨_,op_mod,λ H G x y d1 d2 d g h1 h2 e Q q=>by
  obtain ⟨i,j,rfl,rfl,e2⟩:=int2_some e
  clear e
  unfold modI at e2
  split at e2
  · rename_i hc
    cases e2
    exact ⟨i,j,den_intE h1,den_intE h2,hc,q _ H G (.refl g) den_int⟩
  · cases e2⟩
theorem opd_le:OpD X (compareOp .LtE) (int2 λ i j=>some (.bl (decide (i<=j)))):=⟨_,op_le,λ H G x y d1 d2 d g h1 h2 e Q q=>by
  obtain ⟨i,j,rfl,rfl,e⟩:=int2_some e
  cases e
  exact ⟨i,j,den_intE h1,den_intE h2,q _ H G (.refl g) den_bl⟩⟩
def ltD:D->D->Option D
  | .int i,.int j=>some (.bl (decide (i < j)))
  | .str x,.str y=>some (.bl (decide (x.cps.toList < y.cps.toList)))
  | _,_=>none
theorem opd_lt:OpD X (compareOp .Lt) ltD:=⟨_,op_lt.or op_lt_str,λ H G x y d1 d2 d g h1 h2 e Q q=>by
  cases d1 <;> cases d2 <;> first | cases e | skip
  · exact .inl ⟨_,_,den_intE h1,den_intE h2,q _ H G (.refl g) den_bl⟩
  · exact .inr ⟨_,_,den_strE h1,den_strE h2,q _ H G (.refl g) den_bl⟩⟩
def inStr (x y:Str):Bool:=!(Builtin.Str.occurrences y x 0 y.length 1).isEmpty
def lenD:List D->Option D
  | [.str x]=>if x.length<=10000 then some (.int x.length) else none
  | [.tup ds]=>some (.int ds.length)
  | [.lst ds]=>some (.int ds.length)
  | _=>none
theorem calld_len:CallD X (.builtin "len") lenD:=⟨_,call_len,λ H G vs ds d g l e Q q=>by
  unfold lenD at e
  split at e
  · split at e
    · rename_i hx
      cases e
      obtain ⟨v,r,rfl,h1,h2⟩:=denL_cons.mp l
      cases denL_nil.mp h2
      cases den_strE h1
      exact ⟨_,_,rfl,⟨big24 hx,rfl⟩,q _ H G (.refl g) den_int⟩
    · cases e
  · cases e
    obtain ⟨v,r,rfl,h1,h2⟩:=denL_cons.mp l
    cases denL_nil.mp h2
    obtain ⟨a,vs,rfl,s,l⟩:=den_tup.mp h1
    exact ⟨_,_,rfl,.inr ⟨vs,Same.seqT g s,rfl⟩,q _ H G (.refl g) (by rw [l.length]; exact den_int)⟩
  · cases e
    obtain ⟨v,r,rfl,h1,h2⟩:=denL_cons.mp l
    cases denL_nil.mp h2
    obtain ⟨a,vs,rfl,s,l⟩:=den_lst.mp h1
    exact ⟨_,_,rfl,.inl ⟨vs,g.seq s,rfl⟩,q _ H G (.refl g) (by rw [l.length]; exact den_int)⟩
  · cases e⟩
theorem calls_tuple:CallS X (.type "tuple") (λ p=>some (.tup p.2)):=⟨_,call_tuple_of,λ H G b ds d a vs g s l e Q q=>by
  cases e
  cases b with
  | true=>exact ⟨a,vs,rfl,.inr ⟨Same.seqT g s,q _ H G (.refl g) (den_tup.mpr ⟨a,vs,rfl,s,l⟩)⟩⟩
  | false =>
    refine ⟨a,vs,rfl,.inl ⟨s,λ p hp=>?_⟩⟩
    have A:=Ext.alloc (o:=.tup vs) g hp
    exact q _ _ _ A (den_tup.mpr ⟨p,vs,rfl,SqT.of upd_same,l.up A.gg⟩)⟩
variable {W:XP}
def oList (fs:Ga->R (Bool×List D)):Ga->R (List D):=λ Γ=>(fs Γ).bind λ p=>.ok p.2
theorem ow_list {e:Expr} {fs:Ga->R (Bool×List D)} {pos p:Pos} (hg:Gl X "list") (hm:X.mg "list"=none) (hv:bootBuiltins "list"=some (.type "list")) (ha:SqD X W e fs) (he:starEach [e] X.env=[(false,eval e X.env)]:=by rfl) :
    OwD X W (.Call (.Name "list" p) [e] [] pos) (oList fs):=by
  obtain ⟨t,pt,q⟩:=ha
  refine ⟨_,pe_callTy call_list_of hg hm hv (pa_cons pt pa_nil he) (by decide) (by decide) he rfl,λ H₀ G₀ Γ σ H G R Q w=>?_⟩
  refine q _ _ _ _ _ _ R _ (wStep w (λ _ h=>h) λ ⟨b,ds⟩ k a vs H1 G1 E1 s1 d1=>?_)
  exact ⟨a,vs,rfl,s1.or E1.gh,λ p hp=>k p vs _ G1 (E1.trans (.own E1.gh hp _)) (E1.hh.free hp) upd_same (E1.gh.free hp) d1⟩
theorem atI_den {K:PySem.W.Frag} {G:Hp} {ds:List D} {vs:List V} {i:Int} {d:D} (l:DenL K G ds vs) (h:atI ds i=some d):∃ v,atI vs i=some v/\Den K G d v:=by
  unfold atI at h ⊢
  rw [<- l.length]
  obtain ⟨j,e1,e2⟩:=Option.bind_eq_some_iff.mp h
  obtain ⟨v,e3,e4⟩:=l.get e2
  exact ⟨v,by rw [e1]; exact e3,e4⟩
def ixD:D->D->Option D
  | .tup ds,.int i=>atI ds i
  | .lst ds,.int i=>atI ds i
  | .str z,.int i=>if z.length<=10000 then (atI z.cps.toList i).bind λ c=>some (.str ⟨#[c]⟩) else none
  | _,_=>none
variable {a b e:Expr} {fa fb f:Ga->R D} {fs:Ga->R (Bool×List D)} {pos:Pos}
theorem ev_ix (ha:EvD X W a fa) (hb:EvD X W b fb) (hs:PlainIx b:=by intro _ _; rfl):EvD X W (.Subscript a b pos) (e2 ixD fa fb):=by
  obtain ⟨ta,pa,qa⟩:=ha
  obtain ⟨tb,pb,qb⟩:=hb
  refine ⟨_,pe_ix ix_seq pa pb hs,λ H₀ G₀ Γ σ H G R Q w=>?_⟩
  refine qa _ _ _ _ _ _ R _ (wStep w (λ _ h=>h) λ x w v H1 G1 E1 d1=>?_)
  refine qb _ _ _ _ _ _ (R.after E1) _ (wStep w (λ _ h=>h.up E1) λ y w u H2 G2 E2 d2=>?_)
  obtain ⟨d,e',k⟩:=wOfO w
  unfold ixD at e'
  split at e'
  · obtain ⟨p,vs,rfl,s,l⟩:=den_tup.mp (d1.up E2.gg)
    obtain ⟨v,h1,h2⟩:=atI_den l e'
    exact .inr (.inl ⟨p,vs,_,v,rfl,den_intE d2,Same.seqT E2.gh s,h1,k _ _ _ (E1.trans E2) h2⟩)
  · obtain ⟨p,vs,rfl,s,l⟩:=den_lst.mp (d1.up E2.gg)
    obtain ⟨v,h1,h2⟩:=atI_den l e'
    exact .inl ⟨p,vs,_,v,rfl,den_intE d2,E2.gh.seq s,h1,k _ _ _ (E1.trans E2) h2⟩
  · split at e'
    · rename_i hz
      obtain ⟨c,ec,e'⟩:=Option.bind_eq_some_iff.mp e'
      cases e'
      exact .inr (.inr ⟨_,_,c,den_strE d1,den_intE d2,big24 hz,ec,k _ _ _ (E1.trans E2) den_str⟩)
    · cases e'
  · cases e'
def ixS:Bool×List D->D->Option D:=λ p y=>match y with
  | .int i=>atI p.2 i
  | _=>none
def eIxS (fs:Ga->R (Bool×List D)) (fb:Ga->R D):Ga->R D:=λ Γ=>(fs Γ).bind λ p=>(fb Γ).bind λ y=>.ofO (ixS p y)
theorem ev_ixS (ha:SqD X W a fs) (hb:EvD X W b fb) (hs:PlainIx b:=by intro _ _; rfl):EvD X W (.Subscript a b pos) (eIxS fs fb):=by
  obtain ⟨ta,pa,qa⟩:=ha
  obtain ⟨tb,pb,qb⟩:=hb
  refine ⟨_,pe_ix ix_seq pa pb hs,λ H₀ G₀ Γ σ H G R Q w=>?_⟩
  refine qa _ _ _ _ _ _ R _ (wStep w (λ _ h=>h) λ ⟨b,ds⟩ w p vs H1 G1 E1 s1 l1=>?_)
  refine qb _ _ _ _ _ _ (R.after E1) _ (wStep w (λ _ h=>h.up E1) λ y w u H2 G2 E2 d2=>?_)
  obtain ⟨d,e',k⟩:=wOfO w
  unfold ixS at e'
  split at e'
  · obtain ⟨v,h1,h2⟩:=atI_den (l1.up E2.gg) e'
    rcases (s1.up E2).or E2.gh with z | z
    · exact .inl ⟨p,vs,_,v,rfl,den_intE d2,z,h1,k _ _ _ (E1.trans E2) h2⟩
    · exact .inr (.inl ⟨p,vs,_,v,rfl,den_intE d2,z,h1,k _ _ _ (E1.trans E2) h2⟩)
  · cases e'
def OvD (X:Cx) (W:XP) (o:Option Expr) (g:Ga->R (Option Int)):Prop:=∃ t,PO X o t/\∀ (H₀ G₀:Hp) (Γ:Ga) (σ:L2.St) (H G:Hp),Rep X.K H₀ G₀ Γ σ H G->∀ Q:Option Int->Hp->Prop,(g Γ).want (exAt W σ H G) (λ b=>∀ H' G',Ext H G H' G'->Q b H')->t σ H Q
def asI:D->Option Int
  | .int i=>some i
  | _=>none
def oI (f:Ga->R D):Ga->R (Option Int):=λ Γ=>(f Γ).bind λ d=>(R.ofO (asI d)).bind λ i=>.ok (some i)
theorem ov_some (h:EvD X W e f):OvD X W (some e) (oI f):=by
  obtain ⟨t,p,q⟩:=h
  refine ⟨_,po_some p,λ H₀ G₀ Γ σ H G R Q w=>?_⟩
  refine q _ _ _ _ _ _ R _ (wStep w (λ _ h=>h) λ d w v H' G' E1 d1=>?_)
  obtain ⟨i,e2,k⟩:=wOfOb w
  cases d <;> first | cases e2 | skip
  exact ⟨_,den_intE d1,k _ _ E1⟩
def cut {α:Type} (xs:List α) (lo hi:Option Int):List α:=(xs.drop (HT.sIx xs.length 0 lo)).take (HT.sIx xs.length xs.length hi - HT.sIx xs.length 0 lo)
theorem cut_den {K:PySem.W.Frag} {G:Hp} {ds:List D} {vs:List V} (l:DenL K G ds vs) (lo hi:Option Int):DenL K G (cut ds lo hi) (cutV vs lo hi):=by
  unfold cut cutV
  rw [<- l.length]
  exact (l.drop _).take _
variable {lo hi:Option Expr} {gl gh:Ga->R (Option Int)} {p2:Pos}
def cutS (p:Bool×List D) (l h:Option Int):Option (List D):=match p with
  | (false,ds)=>some (cut ds l h)
  | _=>none
def oSl (fs:Ga->R (Bool×List D)) (gl gh:Ga->R (Option Int)):Ga->R (List D):=λ Γ=>(fs Γ).bind λ d=>(gl Γ).bind λ l=>(gh Γ).bind λ h=>.ofO (cutS d l h)
theorem ow_slL (he:SqD X W e fs) (hl:OvD X W lo gl) (hh:OvD X W hi gh):OwD X W (.Subscript e (.Slice lo hi none p2) pos) (oSl fs gl gh):=by
  obtain ⟨t,p,q⟩:=he
  obtain ⟨t1,p1,q1⟩:=hl
  obtain ⟨t2,p2,q2⟩:=hh
  refine ⟨_,pe_slice sl_list p p1 p2,λ H₀ G₀ Γ σ H G R Q w=>?_⟩
  refine q _ _ _ _ _ _ R _ (wStep w (λ _ h=>h) λ ⟨b,ds⟩ w a vs H1 G1 E1 s1 d1=>?_)
  refine q1 _ _ _ _ _ _ (R.after E1) _ (wStep w (λ _ h=>h.up E1) λ l w H2 G2 E2=>?_)
  refine q2 _ _ _ _ _ _ ((R.after E1).after E2) _ (wStep w (λ _ h=>h.up (E1.trans E2)) λ h w H3 G3 E3=>?_)
  obtain ⟨d,e',k⟩:=wOfO w
  cases b with
  | true=>cases e'
  | false =>
    cases e'
    have E13:=E1.trans (E2.trans E3)
    refine ⟨a,vs,rfl,(s1.up E2).up E3,λ p hp=>?_⟩
    exact k p _ _ G3 (E13.trans (.own E13.gh hp _)) (E13.hh.free hp) upd_same (E13.gh.free hp) (cut_den (d1.up (E2.gg.trans E3.gg)) l h)
theorem bools_of {bs:List Bool}:∀ {us:List Value},Vals (bs.map V.bl) us->LSm.BoolsAre us bs:=by
  induction bs with
  | nil=>intro us h; cases h; exact .nil
  | cons b bs ih =>
    intro us h
    cases h with
    | cons r t =>
      obtain rfl:=(show _=Value.bool b from r)
      exact .cons b (ih t)
theorem call_all:CallR X (.builtin "all") (λ xs H Q=>X.calm=true/\∃ (p:Addr) (bs:List Bool),xs=[.ref p]/\SqL X.K H p (bs.map V.bl)/\Q (.bl (bs.all id)) H):=by
  rintro pins s σ H xs us Q I rv ⟨hc,p,bs,rfl,hs,q⟩
  obtain ⟨u,rfl,ru⟩:=rv.one
  obtain rfl:u=Value.ref p:=ru
  obtain ⟨its,vv,⟨o,n,h1,h2,h3,h4⟩,hl⟩:=I.list hs
  have hb:=bools_of vv
  have hL:s.heap.IsList p its.toArray:=⟨o,h1,h2,n,h4⟩
  have hlt:p < s.heap.objs.size:=Heap.lt_size h1
  refine call_all_walk (wpAny_pyIter_list hL ?_)
  refine ⟨s.heap.objs.size,[s.heap.objs.size,p],[s.heap.objs.size],its.toArray.size,_,_,λ i=>(bs[i]?).getD true,rfl,Walks.list (A:=X.A.in1) (I.ok.hd hc) _ p (Nat.ne_of_lt hlt) its.toArray,
    ⟨⟨_,Heap.get?_push_size _ rfl,rfl,rfl⟩,hL.push _⟩,λ i v s' Q' E' hP hQ=>?_,λ h' tk hk=>?_⟩
  · obtain ⟨b,e,rfl⟩:=hb.get i v (by simpa using hP)
    simp only [e,Option.getD_some] at hQ
    exact wpAny_truthy_bool hQ
  · have e:((List.range its.toArray.size).all λ i=>(bs[i]?).getD true)=bs.all id:=by
      rw [List.size_toArray,hb.length]; exact LSm.range_all bs
    rw [e]
    exact ⟨.bl _,H,I.kept (LSm.kept_iter hk),rfl,q⟩
def asBs:List D->Option (List Bool)
  | []=>some []
  | .bl b::ds=>(asBs ds).bind λ r=>some (b::r)
  | _=>none
theorem asBs_den {K:PySem.W.Frag} {G:Hp}:∀ {ds:List D} {vs:List V} {bs:List Bool},DenL K G ds vs->asBs ds=some bs->vs=bs.map V.bl
  | [],vs,bs,h,e=>by cases e; exact denL_nil.mp h
  | d::ds,vs,bs,h,e=>by
    obtain ⟨v,r,rfl,h1,h2⟩:=denL_cons.mp h
    cases d <;> first | cases e | skip
    obtain ⟨r',e1,e2⟩:=Option.bind_eq_some_iff.mp e
    cases e2
    rw [den_blE h1,asBs_den h2 e1]
    rfl
theorem calls_all (hc:X.calm=true):CallS X (.builtin "all") (λ p=>match p with | (false,ds)=>(asBs ds).bind λ bs=>some (.bl (bs.all id)) | _=>none):=⟨_,call_all,λ H G b ds d a vs g s l e Q q=>by
  cases b with
  | true=>cases e
  | false =>
    obtain ⟨bs,e1,e2⟩:=Option.bind_eq_some_iff.mp e
    cases e2
    have:=asBs_den l e1
    subst this
    exact ⟨hc,a,bs,rfl,s,q _ H G (.refl g) den_bl⟩⟩
def tyN:D->String
  | .non=>"NoneType"
  | .bl _=>"bool"
  | .int _=>"int"
  | .str _=>"str"
  | .tup _=>"tuple"
  | .lst _=>"list"
def tyK (K:PySem.W.Frag) (H:Hp) (x:V) (t:String):Prop:=match x with
  | .non=>t="NoneType"
  | .bl _=>t="bool"
  | .int _=>t="int"
  | .str _=>t="str"
  | .ref a=>(t="tuple"/\∃ vs,SqT K H a vs)∨(t="list"/\∃ vs,SqL K H a vs)
  | _=>False
theorem tyK_den {K:PySem.W.Frag} {H G:Hp} {d:D} {v:V} (g:Same G H) (h:Den K G d v):tyK K H v (tyN d):=by
  cases d with
  | non=>rw [den_nonE h]; rfl
  | bl b=>rw [den_blE h]; rfl
  | int b=>rw [den_intE h]; rfl
  | str b=>rw [den_strE h]; rfl
  | tup _=>obtain ⟨a,vs,rfl,s,_⟩:=den_tup.mp h; exact .inl ⟨rfl,vs,Same.seqT g s⟩
  | lst _=>obtain ⟨a,vs,rfl,s,_⟩:=den_lst.mp h; exact .inr ⟨rfl,vs,g.seq s⟩
theorem call_isi:CallR X (.builtin "isinstance") (λ xs H Q=>∃ x T t b,xs=[x,.ty T]/\tyK X.K H x t/\PySem.W.kitOne X.K (.type t) (.type T)=some b/\Q (.bl b) H):=by
  rintro pins s σ H xs us Q I rv ⟨x,T,t,b,rfl,ty,e,q⟩
  obtain ⟨u,c,rfl,rx,rc⟩:=rv.two
  obtain rfl:c=Value.type T:=rc
  have fin:∀ tk,EP X pins σ Q (.bool b) { s with toks:=tk }:=λ tk=>⟨.bl b,H,I.tok tk,rfl,q⟩
  cases x with
  | non=>obtain rfl:t=_:=ty; cases (show u=Value.none from rx); exact PySem.W.kia_one PySem.W.kitx_none I.kIn True.intro e (λ z=>nomatch z) fin
  | bl y=>obtain rfl:t=_:=ty; cases (show u=Value.bool y from rx); exact PySem.W.kia_one PySem.W.kitx_bool I.kIn True.intro e (λ z=>nomatch z) fin
  | int i=>obtain rfl:t=_:=ty; obtain ⟨t,z⟩:=(show ∃ t,u=Value.int i t from rx); cases z; exact PySem.W.kia_one PySem.W.kitx_int I.kIn True.intro e (λ z=>nomatch z) fin
  | str y=>obtain rfl:t=_:=ty; obtain ⟨t,z⟩:=(show ∃ t,u=Value.str y t from rx); cases z; exact PySem.W.kia_one PySem.W.kitx_str I.kIn True.intro e (λ z=>nomatch z) fin
  | ref a =>
    cases (show u=Value.ref a from rx)
    rcases ty with ⟨rfl,vs,h⟩ | ⟨rfl,vs,h⟩
    · obtain ⟨its,_,⟨o,h1,h2,_⟩,_⟩:=I.tuple h
      exact PySem.W.kia_one PySem.W.kitx_tuple I.kIn ⟨o,h1,h2⟩ e (λ z=>nomatch z) fin
    · obtain ⟨its,_,⟨o,n,h1,h2,_⟩,_⟩:=I.list h
      exact PySem.W.kia_one PySem.W.kitx_list I.kIn ⟨o,h1,h2⟩ e (λ z=>nomatch z) fin
  | byt _=>exact ty.elim
  | flt _=>exact ty.elim
  | ty _=>exact ty.elim
def eIsi (g:String->Bool) (fa:Ga->R D):Ga->R D:=λ Γ=>(fa Γ).bind λ d=>.ok (.bl (g (tyN d)))
theorem ev_isi {T:String} {nT:Str} {g:String->Bool} {p p3:Pos} (hg:Gl X "isinstance") (hm:X.mg "isinstance"=none) (hgT:Gl X nT) (hmT:X.mg nT=none) (hv:bootBuiltins nT=some (.type T)) (ha:EvD X W a fa)
    (hk:∀ d:D,PySem.W.kitOne X.K (.type (tyN d)) (.type T)=some (g (tyN d))) (hvi:bootBuiltins "isinstance"=some (.builtin "isinstance")) (hn:nT≠"__name__":=by decide) (hdb:(nT == ("__debug__":Str))=false:=by decide)
    (hs:starEach [a,.Name nT p3] X.env=(false,eval a X.env)::starEach [.Name nT p3] X.env:=by rfl) (hs2:starEach [.Name nT p3] X.env=[(false,eval (.Name nT p3) X.env)]:=by rfl) :
    EvD X W (.Call (.Name "isinstance" p) [a,.Name nT p3] [] pos) (eIsi g fa):=by
  obtain ⟨t,pt,q⟩:=ha
  have pT:PE X (.Name nT p3) (tC (.ty T)):=pe_bltn hgT hmT hv rfl hn hdb
  refine ⟨_,pe_callB call_isi hg hm hvi (pa_cons pt (pa_cons pT pa_nil hs2) hs) (by decide) (by decide) hs (by rw [hs2]; rfl),λ H₀ G₀ Γ σ H G R Q w=>?_⟩
  refine q _ _ _ _ _ _ R _ (wStep w (λ _ h=>h) λ d k v H1 G1 E1 d1=>?_)
  exact ⟨v,T,_,_,rfl,tyK_den E1.gh d1,hk d,k _ _ _ E1 den_bl⟩
end
end Wy


namespace Wy
open PySem PySem.Spec PyProof.Rows L2
section
variable {X:Cx} {W:XP} {tg e:Expr} {f:Ga->R D} {te:TE}
end
section
open PySem.SeqAt
open PySem.AutoSeq1 (wpAny_loadPart')
open PySem.MeetsSeq PySem.MeetsSeq2 PySem.MeetsSeq3 PySem.AutoSeq1
end
section
variable {X:Cx}
variable {W:XP} {e:Expr} {f:Ga->R D} {pos pos' apos cpos:Pos} {x:Str}
end
end Wy


namespace Wy
open PySem PySem.Spec PyProof.Rows L2
def relS (scope osc:Scope):Scope :=
  { scope with names:=scope.names.map λ (n,k)=>if (k == .free&&osc.kind == .function&&osc.names.lookup n == some .cell) then (n,.cell) else (n,k) }
theorem relS_eq (scope:Scope) (env:Env):relabel scope env=relS scope env.scope:=rfl
def isCF (k:Option NameKind):Bool:=k == some .cell||k == some .free
def visB (sc:Scope) (x:Str):Bool:=sc.names.lookup x == some .local||isCF (sc.names.lookup x)
theorem visB_of {sc:Scope} {x:Str} (h:Vis sc x):visB sc x=true:=by
  unfold visB isCF
  rcases h with h | h | h <;> (rw [h]; rfl)
theorem isCF_iff {k:Option NameKind} (h:isCF k=true):k=some .cell∨k=some .free:=by
  unfold isCF at h
  rw [Bool.or_eq_true] at h
  exact h.imp (λ z=>beq_iff_eq.mp z) (λ z=>beq_iff_eq.mp z)
theorem isCF_of {k:Option NameKind} (h:k=some .cell∨k=some .free):isCF k=true:=by
  rcases h with rfl | rfl <;> rfl
def blkCheck (scope osc:Scope) (N keys:List Str) (x:Str):Bool :=
  scope.kind == .function&&scope.names.all (λ y=>y.2 != .cell)&&scope.names.all (λ y=>y.2 != .local||scope.names.lookup y.1 == some .local)&&(scope.names.lookup x == some .local) &&
  decide (blkN x N).Nodup&&(relS scope osc).names.all (λ y=>!isCF ((relS scope osc).names.lookup y.1)||keys.contains y.1)&&!visB (relS scope osc) (accN N.length) &&
  N.all (λ y=>!visB (relS scope osc) (if y=x then dum N.length else y)||(decide (y≠x)&&isCF ((relS scope osc).names.lookup y)&&isCF (osc.names.lookup y)))
theorem mem_of_lookup {α:Type} {l:List (Str×α)} {x:Str} {a:α} (h:l.lookup x=some a):∃ p∈l,p.1=x/\p.2=a:=by
  induction l with
  | nil=>cases h
  | cons p l ih =>
    obtain ⟨y,b⟩:=p
    rw [List.lookup_cons] at h
    split at h
    · rename_i hx
      cases h
      exact ⟨_,List.mem_cons_self,(beq_iff_eq.mp hx).symm,rfl⟩
    · obtain ⟨p,hp,e⟩:=ih h
      exact ⟨p,List.mem_cons_of_mem _ hp,e⟩
theorem lookup_of_key {α:Type} {l:List (Str×α)} {x:Str} (h:(l.map (·.1)).contains x=true):∃ a,l.lookup x=some a:=by
  induction l with
  | nil=>cases h
  | cons p l ih =>
    obtain ⟨y,b⟩:=p
    rw [List.lookup_cons]
    by_cases hx:(x == y)=true
    · rw [hx]; exact ⟨b,rfl⟩
    · rw [Bool.eq_false_iff.mpr hx]
      apply ih
      rw [List.map_cons,List.contains_cons] at h
      rw [Bool.eq_false_iff.mpr hx,Bool.false_or] at h
      exact h
theorem blk_mk {X:Cx} {scope:Scope} {cl:List (Str×Addr)} {x:Str} (osc:Scope) (N keys:List Str) (e1:X.env.scope=osc) (e2:X.N=N) (clos:closureFor scope X.env=pure cl) (hk:keys.all (λ y=>(cl.map (·.1)).contains y)=true)
    (hc:∀ p∈cl,X.env.cells.lookup p.1=some p.2) (chk:blkCheck scope osc N keys x=true):BlkOk X scope cl x:=by
  subst e1 e2
  unfold blkCheck at chk
  simp only [Bool.and_eq_true] at chk
  obtain ⟨⟨⟨⟨⟨⟨⟨c1,c2⟩,c3⟩,c4⟩,c5⟩,c6⟩,c7⟩,c8⟩:=chk
  refine ⟨beq_iff_eq.mp c1,λ y hy=>?_,clos,λ y hy hl=>?_,beq_iff_eq.mp c4,of_decide_eq_true c5,λ y c h=>?_,λ y h=>?_,λ h=>?_,λ y hy _ hv=>?_⟩
  · exact bne_iff_ne.mp (List.all_eq_true.mp c2 y hy)
  · have:=List.all_eq_true.mp c3 y hy
    rw [hl] at this
    exact beq_iff_eq.mp (by simpa using this)
  · obtain ⟨p,hp,rfl,rfl⟩:=mem_of_lookup h
    exact hc p hp
  · have hcf:=isCF_of h
    rw [relS_eq] at hcf
    obtain ⟨k,hkk⟩:∃ k,(relS scope X.env.scope).names.lookup y=some k:=by
      rcases h with h | h
      · exact ⟨_,h⟩
      · exact ⟨_,h⟩
    obtain ⟨p,hp,rfl,_⟩:=mem_of_lookup hkk
    have:=List.all_eq_true.mp c6 p hp
    rw [hcf] at this
    exact lookup_of_key (List.all_eq_true.mp hk p.1 (List.contains_iff_mem.mp (by simpa using this)))
  · rw [relS_eq] at h
    rw [visB_of h] at c7
    cases c7
  · rw [relS_eq] at hv ⊢
    have:=List.all_eq_true.mp c8 y hy
    rw [visB_of hv] at this
    simp only [Bool.not_true,Bool.false_or,Bool.and_eq_true] at this
    exact ⟨of_decide_eq_true this.1.1,isCF_iff this.1.2,isCF_iff this.2⟩
def gInt:String->Bool:=λ t=>t == "int"||t == "bool"
def gBool:String->Bool:=λ t=>t == "bool"
def gTuple:String->Bool:=λ t=>t == "tuple"
theorem kit_int (K:PySem.W.Frag) (d:D):PySem.W.kitOne K (.type (tyN d)) (.type "int")=some (gInt (tyN d)):=by cases d <;> kernel_rfl
theorem kit_bool (K:PySem.W.Frag) (d:D):PySem.W.kitOne K (.type (tyN d)) (.type "bool")=some (gBool (tyN d)):=by cases d <;> kernel_rfl
theorem kit_tuple (K:PySem.W.Frag) (d:D):PySem.W.kitOne K (.type (tyN d)) (.type "tuple")=some (gTuple (tyN d)):=by cases d <;> kernel_rfl
structure Def (K:PySem.W.Frag) (mg:Str->Option Value) (x:Str) (st:Stmt) (ps:List Str) (f:Addr) (fd:FuncData):Prop where
  fn:Fun K x x st f fd
  bd:Binds K fd ps []
  mg:mg x=some (.ref f)
theorem def_mk {K:PySem.W.Frag} {h:Heap} {mg:Str->Option Value} (X:K.In h) (G:h.Ns mainGlobals mg) {x:Str} {st:Stmt} {ps:List Str} {f:Addr} {oc:Value} {od an:Option Addr} {osl:Array (Option Value)} {kV doc pm cdv ct:Value}
    (a:PySem.W.nsIn K mainGlobals x=some (some (.ref f))) (l:K.lookup f=some ⟨oc,od,.func (PySem.W.fnOf x x (defArgs st) (defBody st) (defScope st) .none kV doc pm an cdv ct),osl⟩)
    (c:PySem.W.codeIn K cdv x=true) (k:PySem.W.keepIn K (.ref f)=true)
    (b:∀ (kV doc pm:Value) (an:Option Addr) (cdv ct:Value) (us:List Value),us.length=ps.length->bindArgs (PySem.W.fnOf x x (defArgs st) (defBody st) (defScope st) .none kV doc pm an cdv ct) ⟨us,[]⟩=pure (ps.zip us)) :
    ∃ fd,Def K mg x st ps f fd:=⟨_,fun_mk l c k,(fun_mk (st:=st) l c k).binds b,PySem.W.mg_of X G a⟩
def spL (K:PySem.W.Frag) (F:List D->R D):Sp:=λ vs H Q E=>∃ (G:Hp) (ds:List D),Same G H/\TabIn K H G/\DenL K G ds vs/\ds.length=1/\(F ds).want (λ _=>False) (λ d=>∀ v H' G',Ext H G H' G'->Den K G' d v->Q v H')
theorem spL_of {K:PySem.W.Frag} {H G:Hp} {a:Addr} {ns:List Int} {F:List D->R D} {E:XK} (g:Same G H) (t:TabIn K H G) (h:SqL K G a (ns.map V.int)) (hF:F [.lst (ns.map D.int)]=.ok (.bl true)):spL K F [.ref a] H (λ v _=>v=.bl true) E:=by
  have l:∀ ns:List Int,DenL K G (ns.map D.int) (ns.map V.int):=λ ns=>by
    induction ns with
    | nil=>exact denL_nil.mpr rfl
    | cons n ns ih=>exact denL_cons.mpr ⟨_,_,rfl,den_int,ih⟩
  exact ⟨G,_,g,t,.one (den_lst.mpr ⟨a,_,rfl,h,l ns⟩),rfl,by rw [hF]; exact λ v H' G' _ d=>den_blE d⟩
theorem FnOk.toL {P:Program} {w:World} {K:PySem.W.Frag} {mg:Str->Option Value} {base:Heap} {CX:CXT} {k:Nat} {f:Addr} {fd:FuncData} {ps:List Str} {F:List D->R D} (h:FnOk P w K mg base CX k f fd ps (spF K mg 1 F)):FnOk P w K mg base CX k f fd ps (spL K F) :=
  h.imp λ vs H Q E ⟨G,ds,a,t,b,c,d⟩=>⟨G,ds,a,t,b,c,wImp d (λ _ z=>z.elim) λ _ z=>z⟩
theorem compR_map {f:Ga->R D} {Γ:Ga} {h:D->D}:∀ {ds:List D},(∀ d∈ds,f (.val d::.un::Γ)=.ok (h d))->compR cTrue f Γ ds=.ok (ds.map h)
  | [],_=>rfl
  | d::ds,H=>by
    unfold compR
    show (f (.val d::.un::Γ)).calm.bind _=_
    rw [H d List.mem_cons_self]
    show (compR _ f Γ ds).bind _=_
    rw [compR_map λ x hx=>H x (List.mem_cons_of_mem _ hx)]
    rfl
theorem compR_filter {c:Ga->R Bool} {f:Ga->R D} {Γ:Ga} {p:D->Bool} {h:D->D}:∀ {ds:List D},(∀ d∈ds,c (.val d::.un::Γ)=.ok (p d))->(∀ d∈ds,p d=true->f (.val d::.un::Γ)=.ok (h d))->compR c f Γ ds=.ok ((ds.filter p).map h)
  | [],_,_=>rfl
  | d::ds,H,H2=>by
    have ih:=compR_filter (c:=c) (f:=f) (Γ:=Γ) (p:=p) (h:=h) (ds:=ds) (λ x hx=>H x (List.mem_cons_of_mem _ hx)) (λ x hx=>H2 x (List.mem_cons_of_mem _ hx))
    unfold compR
    rw [H d List.mem_cons_self]
    cases hp:p d with
    | true =>
      rw [List.filter_cons_of_pos hp]
      show (f (.val d::.un::Γ)).calm.bind _=_
      rw [H2 d List.mem_cons_self hp]
      show (compR _ f Γ ds).bind _=_
      rw [ih]
      rfl
    | false =>
      rw [List.filter_cons_of_neg (by rw [hp]; exact Bool.false_ne_true)]
      exact ih
theorem asBs_map {α:Type} (g:α->Bool):∀ xs:List α,asBs (xs.map λ x=>D.bl (g x))=some (xs.map g)
  | []=>rfl
  | x::xs=>by
    show (asBs (xs.map λ x=>D.bl (g x))).bind _=_
    rw [asBs_map g xs]
    rfl
theorem whileN_inv {g:Ga->R Bool} {T:Ga->RS} (I:Nat->Ga->Prop) (E:RS->Prop)
    (turn:∀ m Γ,I m Γ->(g Γ=.ok false/\E (.nx Γ))∨(g Γ=.ok true/\((∃ Γ' m',(T Γ=.nx Γ'∨T Γ=.ct Γ')/\m' < m/\I m' Γ')∨(∃ Γ',T Γ=.bk Γ'/\E (.nx Γ'))∨(∃ d,T Γ=.rt d/\E (.rt d))∨(∃ c Γ',T Γ=.ex c Γ'/\E (.ex c Γ'))))) :
    ∀ (n m:Nat) (Γ:Ga),I m Γ->m < n->E (sWhileN g T n Γ)
  | 0,m,Γ,_,h=>by omega
  | n + 1,m,Γ,hI,h=>by
    unfold sWhileN
    rcases turn m Γ hI with ⟨hg,hE⟩ | ⟨hg,ht⟩
    · rw [hg]; exact hE
    · rw [hg]
      show E (match T Γ with
          | .nx Γ'=>sWhileN g T n Γ'
          | .ct Γ'=>sWhileN g T n Γ'
          | .bk Γ'=>.nx Γ'
          | r=>r)
      rcases ht with ⟨Γ',m',hT,hm,hI'⟩ | ⟨Γ',hT,hE⟩ | ⟨d,hT,hE⟩ | ⟨c,Γ',hT,hE⟩
      · rcases hT with hT | hT <;> (rw [hT]; exact whileN_inv I E turn n m' Γ' hI' (by omega))
      · rw [hT]; exact hE
      · rw [hT]; exact hE
      · rw [hT]; exact hE
theorem while_inv {g:Ga->R Bool} {T:Ga->RS} (I:Nat->Ga->Prop) (E:RS->Prop) {m:Nat} {Γ:Ga} (h0:I m Γ) (hm:m < FUEL)
    (turn:∀ m Γ,I m Γ->(g Γ=.ok false/\E (.nx Γ))∨(g Γ=.ok true/\((∃ Γ' m',(T Γ=.nx Γ'∨T Γ=.ct Γ')/\m' < m/\I m' Γ')∨(∃ Γ',T Γ=.bk Γ'/\E (.nx Γ'))∨(∃ d,T Γ=.rt d/\E (.rt d))∨(∃ c Γ',T Γ=.ex c Γ'/\E (.ex c Γ'))))) :
    E (sWhile g T Γ):=whileN_inv I E turn FUEL m Γ h0 hm
theorem fn_none {P:Program} {w:World} {K:PySem.W.Frag} {mg:Str->Option Value} {base:Heap} {CX:CXT} {k n:Nat} {f:Addr} {fd:FuncData} {ps:List Str}:FnOk P w K mg base CX k f fd ps (spF K mg n λ _=>.no):=by
  have no:∀ vs H Q E,¬ spF K mg n (λ _=>.no) vs H Q E:=λ vs H Q E ⟨G,ds,_,_,_,_,e⟩=>e
  exact ⟨λ vs H Q E z=>absurd z (no vs H Q E),λ A outer s H args us vs Q E _ _ _ _ z=>absurd z (no vs H Q E)⟩
structure Bas (K:PySem.W.Frag) (mg:Str->Option Value) (base:Heap):Prop where
  kin:K.In base
  ns:base.Ns mainGlobals mg
  bi:∃ bm ob,mg "__builtins__"=some (.ref bm)/\bm≠builtinsNs/\base.get? bm=some ob/\ob.cls=.type "module"/\ob.dict=some builtinsNs/\ob.data=.plain
  code:∀ y∈LAMS,∀ c P,PySem.W.tabIn K y=some (c,P)->PySem.W.CodeHd base c P
def Tabs0 (K:PySem.W.Frag) (h:Heap):Prop:=∀ y∈LAMS,∀ c P,PySem.W.tabIn K y=some (c,P)->(PySem.W.CodeHd h c P/\h.get? P=some (PySem.W.tabObj #[]))/\K.lookup P=none
def isTab (K:PySem.W.Frag) (b:Addr):Prop:=∃ y∈LAMS,∃ c,PySem.W.tabIn K y=some (c,b)
noncomputable def entryH (K:PySem.W.Frag) (G:Hp):Hp:=open Classical in λ b=>if isTab K b then some (.tbl #[]) else G b
theorem entryH_t {K:PySem.W.Frag} {G:Hp} {b:Addr} (h:isTab K b):entryH K G b=some (.tbl #[]):=by unfold entryH; rw [if_pos h]
theorem entryH_n {K:PySem.W.Frag} {G:Hp} {b:Addr} (h:¬ isTab K b):entryH K G b=G b:=by unfold entryH; rw [if_neg h]
theorem law_callT {P:Program} {w:World} {K:PySem.W.Frag} {mg mb:Str->Option Value} {CX:CXT} {k:Nat} {fa a:Addr} {fd:FuncData} {x:Str} {F:List D->R D} {s:Shared} {vs:List Value} {ns:List Int}
    (KX:K.In s.heap) (hns:s.heap.Ns mainGlobals mg) (hb:s.heap.Ns builtinsNs mb) (hbb:∀ x:Str,x≠"__name__"->mb x=bootBuiltins x) (hlim:s.heap.NoLimit) (hg:s.gens=#[])
    (hbi:∃ bm ob,mg "__builtins__"=some (.ref bm)/\bm≠builtinsNs/\s.heap.get? bm=some ob/\ob.cls=.type "module"/\ob.dict=some builtinsNs/\ob.data=.plain) (hT:Tabs0 K s.heap)
    (ha:s.heap.get? a=some { cls:=.type "list",data:=.seq vs.toArray }) (hi:IntsAre vs ns) (hl:ns.length<=sizeLine) (hr:Room k callerA)
    (Fn:∀ base:Heap,Bas K mg base->FnOk P w K mg base CX k fa fd [x] (spL K F)) (hbind:∀ (s:Shared) (u:Value),BindsTo s fd ⟨[u],[]⟩ [(x,u)]) (hF:F [.lst (ns.map D.int)]=.ok (.bl true))
    (hCX:∀ H e s',CX [] H s E0 e s'->False) :
    codeAny (model P w) callerA (.call (.ref fa) ⟨[.ref a],[]⟩) (λ r s'=>r=.ok (.ret (.bool true))/\OldK s.heap s'.heap/\s'.os=s.os/\AllBare s'.gens) s:=by
  have rv:=vals_ints hi
  have lenV:=hi.length
  have ta:¬ isTab K a:=λ ⟨y,hy,c,e⟩=>by
    have:=(hT y hy c a e).1.2
    rw [ha] at this
    cases this
  have core:∀ G:Hp,SqL K G a (ns.map V.int)->(∀ b,G b=none∨(b=a/\∃ o xs,G b=some (.frz o (.lst xs))/\s.heap.get? b=some o/\ObjOk P w G s.heap b (.lst xs)))->(G a≠none->K.lookup a=none) ->
      codeAny (model P w) callerA (.call (.ref fa) ⟨[.ref a],[]⟩) (λ r s'=>r=.ok (.ret (.bool true))/\OldK s.heap s'.heap/\s'.os=s.os/\AllBare s'.gens) s:=by
    intro G hS hG hK
    have tn:∀ b,isTab K b->G b=none:=λ b hb'=>by
      rcases hG b with z | ⟨z,_⟩
      · exact z
      · subst z; exact absurd hb' ta
    have gh:Same G (entryH K G):=λ b o e=>by
      by_cases z:isTab K b
      · rw [tn b z] at e; cases e
      · rw [entryH_n z]; exact e
    have tab:TabIn K (entryH K G) G:=λ y hy c P' e=>⟨tn _ ⟨y,hy,c,e⟩,#[],entryH_t ⟨y,hy,c,e⟩,trivial,λ pos v q=>by cases q⟩
    have hok:HOk P w (entryH K G) s.heap:=λ b u e=>by
      by_cases z:isTab K b
      · rw [entryH_t z] at e
        cases e
        obtain ⟨y,hy,c,e⟩:=z
        exact (hT y hy c b e).1.2
      · rw [entryH_n z] at e
        rcases hG b with q | ⟨_,o,xs,q,q2,q3⟩
        · rw [q] at e; cases e
        · rw [q] at e
          cases e
          exact ⟨q2,q3⟩
    have vis:∀ {b:Addr} {o:Obj},s.heap.get? b=some o->entryH K G b=none->(hidT s.heap (entryH K G)).get? b=some o:=λ e n=>hidT_get e n
    have free:∀ {b:Addr} {o:Obj},s.heap.get? b=some o->(∀ ps,o.data≠.fields ps)->(∀ its n,o.data≠.seq its n)->entryH K G b=none:=λ {b o} e n1 n2=>by
      by_cases z:isTab K b
      · obtain ⟨y,hy,c,q⟩:=z
        have:=(hT y hy c b q).1.2
        rw [e] at this
        cases this
        exact absurd rfl (n1 _)
      · rw [entryH_n z]
        rcases hG b with q | ⟨q,_⟩
        · exact q
        · subst q
          rw [ha] at e
          cases e
          exact absurd rfl (n2 _ _)
    have nsK:∀ {b:Addr} {m:Str->Option Value},s.heap.Ns b m->(hidT s.heap (entryH K G)).Ns b m:=λ {b m} ⟨o,es,ep,e,d,r⟩=>⟨o,es,ep,vis e (free e (λ _ z=>by rw [d] at z; cases z) λ _ _ z=>by rw [d] at z; cases z),d,r⟩
    have hKb:K.In (hidT s.heap (entryH K G)):=λ b o e=>vis (KX b o e) (by
      by_cases z:isTab K b
      · obtain ⟨y,hy,c,q⟩:=z
        rw [(hT y hy c b q).2] at e
        cases e
      · rw [entryH_n z]
        rcases hG b with q | ⟨q,o',xs,q2,_⟩
        · exact q
        · subst q
          rw [hK (by rw [q2]; simp)] at e
          cases e)
    have hM:Mod K mg (hidT s.heap (entryH K G)):=⟨hKb,nsK hns,⟨mb,nsK hb,hbb⟩,let ⟨mc,h1,h2⟩:=hlim; ⟨mc,nsK h1,h2⟩⟩
    have bas:Bas K mg (hidT s.heap (entryH K G)):=by
      refine ⟨hKb,nsK hns,?_,λ y hy c P' e=>?_⟩
      · obtain ⟨bm,ob,b1,b2,b3,b4,b5,b6⟩:=hbi
        exact ⟨bm,ob,b1,b2,vis b3 (free b3 (λ _ z=>by rw [b6] at z; cases z) λ _ _ z=>by rw [b6] at z; cases z),b4,b5,b6⟩
      · obtain ⟨o,vs',file,tf,flags,tg,inF,text,tt,e1,r1,r2,r3⟩:=(hT y hy c P' e).1.1
        refine ⟨o,vs',file,tf,flags,tg,inF,text,tt,vis e1 ?_,r1,r2,r3⟩
        by_cases z:isTab K c
        · obtain ⟨y2,hy2,c2,q⟩:=z
          have:=(hT y2 hy2 c2 c q).1.2
          rw [e1] at this
          cases this
          cases r1
        · rw [entryH_n z]
          rcases hG c with q | ⟨q,_⟩
          · exact q
          · subst q
            rw [ha] at e1
            cases e1
            injection r1 with z1
            exact absurd z1 (by decide)
    have e0:Env0 P w K mg (hidT s.heap (entryH K G)) callerA [] s (entryH K G):=⟨rfl,hM,λ b o e=>of_hidT e,Nat.le_of_eq (hidT_size _ _),trivial,λ b hb=>absurd (show b∈([]:List Addr) from hb) (by simp),hok,.of_eq hg⟩
    refine codeAny_mono ((Fn _ bas).run callerA [] s (entryH K G) ⟨[.ref a],[]⟩ [.ref a] [.ref a] _ _ hr e0 (hbind s (.ref a)) (.cons rfl .nil) (spL_of (E:=E0) gh tab hS hF)) λ r s' h=>?_
    cases r with
    | error e=>exact (hCX _ e s' h).elim
    | ok fl =>
      cases fl with
      | next=>exact False.elim h
      | brk=>exact False.elim h
      | cont=>exact False.elim h
      | ret u =>
        obtain ⟨v,H',os,bare,un,hok',r',q⟩:=h
        have q':v=.bl true:=q
        subst q'
        obtain rfl:u=Value.bool true:=r'
        refine ⟨rfl,⟨λ b o e=>?_,λ b o e=>un.there b o e (by simp)⟩,os,bare⟩
        cases q:entryH K G b with
        | none=>exact .inl (un.keep b o e q (by intro z; exact absurd (show b∈([]:List Addr) from z) (by simp)) (by simp))
        | some u =>
          by_cases z:isTab K b
          · obtain ⟨y,hy,c,qq⟩:=z
            obtain ⟨⟨cd,tb⟩,_⟩:=hT y hy c b qq
            rw [e] at tb
            cases tb
            obtain ⟨more,hm⟩:=un.tbls b #[] (entryH_t ⟨y,hy,c,qq⟩)
            have hx:s'.heap.get? b=some { cls:=.none,data:=.fields (#[]++more) }:=hok' b _ hm
            refine .inr (.inl ⟨?_,rfl,#[],more,rfl,hx⟩)
            obtain ⟨o,vs',_,_,_,_,_,_,_,e1,r1,r2,r3,_⟩:=cd
            exact ⟨c,o,vs',e1,r1,r2,r3⟩
          · rw [entryH_n z] at q
            rcases hG b with y | ⟨_,o',xs,y,y2,_⟩
            · rw [y] at q; cases q
            · have z2:=un.frzs b o' _ ((entryH_n z).trans y)
              obtain ⟨e2,_⟩:=hok' b _ z2
              rw [e] at y2
              cases y2
              exact .inl e2
  cases hk:K.lookup a with
  | some o =>
    have e:=KX a o hk
    rw [ha] at e
    cases e
    exact core (λ _=>none) (.inr ⟨_,vs.toArray,_,hk,rfl,rfl,rfl,by rw [List.size_toArray,lenV]; exact hl,by simpa using rv⟩) (λ b=>.inl rfl) λ z=>absurd rfl z
  | none =>
    refine core (λ b=>if b=a then some (.frz { cls:=.type "list",data:=.seq vs.toArray } (.lst (ns.map V.int))) else none) (.inl (.inr ⟨{ cls:=.type "list",data:=.seq vs.toArray },if_pos rfl⟩)) (λ b=>?_) λ _=>hk
    by_cases hb:b=a
    · exact .inr ⟨hb,_,_,if_pos hb,by rw [hb]; exact ha,by rw [List.length_map]; exact hl,vs,_,rv,by rw [hb]; exact ha⟩
    · exact .inl (if_neg hb)
theorem walk {l:PySem.W.OpenLaw} {CX:World->CXT} {k:Nat} {x:Str} {F:List D->R D} {q:Program} {loose:List Str} {XP:(Str->Option Value)->Heap->Prop} {YP:World->Heap->Prop} {d:DefRec} {K:Params->PySem.W.Frag} (hn:l.most=some 63) (hdf:d.params.defaults=[]) (hr:Room k callerA)
    (hY:∀ (w:World) (h:Heap),YP w h->(K w.params).In h) (hF:∀ ns:List Int,ns.length<=63->F [.lst (ns.map D.int)]=.ok (.bl true))
    (hT:∀ (w:World) (lo:List Str) (mean:ExcName->Option Value) (mg mb:Str->Option Value) (h:Heap),Top q lo mean mg mb h->(K w.params).In h->Tabs0 (K w.params) h)
    (A:∀ (w:World) (mg:Str->Option Value) (fa:Addr) (h:Heap),(K w.params).In h->h.Ns mainGlobals mg->mg d.name=some (.ref fa) ->
      ∃ fd:FuncData,(∀ (s:Shared) (u:Value),BindsTo s fd ⟨[u],[]⟩ [(x,u)])/\∀ base:Heap,Bas (K w.params) mg base->FnOk l.prog w (K w.params) mg base (CX w) k fa fd [x] (spL (K w.params) F))
    (hCX:∀ (w:World) (H:Hp) (s:Shared) (e:Value) (s':Shared),CX w [] H s E0 e s'->False) :
    PySem.W.WalkO q loose XP YP l.row.toRowW d [] (λ f vs=>PySem.call f vs):=by
  refine Att.attach_call hn hdf λ w s₀ s₁ mg mb fa o pm cd doc a vs ns G Y ho hd hcd hmg hobj hints hlen hg=>?_
  have KX:=hY w _ Y
  obtain ⟨fd,hb,hFn⟩:=A w mg fa _ KX G.T.g hmg
  exact law_callT KX G.T.g G.T.b G.T.builtins G.T.nolimit hg G.T.bmain (hT w _ _ _ _ _ G.T KX) hobj hints (Nat.le_trans hlen (by decide)) hr hFn hb (hF ns hlen) λ H e s'=>hCX w H s₁ e s'
end Wy


namespace Wy
open PySem PySem.Spec PyProof.Rows L2
section
variable {X:Cx}
theorem op_cat0:OpR X (binaryOp .Add) (λ x y H Q=>∃ a b ys,x=.ref a/\y=.ref b/\SqT X.K H a []/\SqT X.K H b ys/\Q (.ref b) H):=by
  rintro pins s σ H x y v u Q I rx ry ⟨a,b,ys,rfl,rfl,ha,hb,q⟩
  obtain rfl:v=Value.ref a:=rx
  obtain rfl:u=Value.ref b:=ry
  obtain ⟨ia,ra,⟨⟨c1,d1,t1,s1⟩,g1,hc1,n1,hd1⟩,_⟩:=I.tuple ha
  obtain ⟨ib,rb,⟨⟨c2,d2,t2,s2⟩,g2,hc2,n2,hd2⟩,_⟩:=I.tuple hb
  cases ra
  cases hc1
  cases hd1
  cases hc2
  cases hd2
  exact concat_meets ⟨_,g1,rfl⟩ ⟨_,g2,rfl⟩ noFill_tuple_add seq_tuple_add PySem.F.slot_tuple_add PySem.F.entry_tuple_add (PySem.F.args_tuple_add_2 _ _) (tuple_addW0 a b _ ib.toArray n1 n2 d1 d2 s1 s2 rfl) ⟨g1,g2,.ref b,H,I,rfl,q⟩
def catD:D->D->Option D
  | .tup xs,.tup ys=>if 100000 < xs.length + ys.length then none else some (.tup (xs++ys))
  | _,_=>none
theorem opd_cat:OpD X (binaryOp .Add) catD:=⟨_,op_cat0.or op_catT,λ H G x y d1 d2 d g h1 h2 e Q q=>by
  unfold catD at e
  split at e
  · rename_i xs ys
    split at e
    · cases e
    · rename_i hz
      cases e
      obtain ⟨a,vs,rfl,sa,la⟩:=den_tup.mp h1
      obtain ⟨b,us,rfl,sb,lb⟩:=den_tup.mp h2
      cases xs with
      | nil =>
        cases denL_nil.mp la
        exact .inl ⟨a,b,us,rfl,rfl,Same.seqT g sa,Same.seqT g sb,q _ H G (.refl g) h2⟩
      | cons x1 xs =>
        have zv:vs≠[]:=λ z=>by have:=la.length; rw [z] at this; cases this
        refine .inr ⟨a,b,vs,us,rfl,rfl,Same.seqT g sa,Same.seqT g sb,zv,by rw [<- la.length,<- lb.length]; exact Nat.le_trans (Nat.le_of_not_lt hz) (by decide),λ z=>?_,λ z p hp=>?_⟩
        · have:ys=[]:=List.length_eq_zero_iff.mp (by rw [lb.length,z]; rfl)
          subst this
          exact q _ H G (.refl g) (by rw [List.append_nil]; exact h1)
        · have A:=Ext.alloc (o:=.tup (vs++us)) g hp
          exact q _ _ _ A (den_tup.mpr ⟨p,_,rfl,SqT.of upd_same,(la.append lb).up A.gg⟩)
  · cases e⟩
end
section
variable {prog:Program} {w:World} {A:Around} {E:Value->Shared->Prop} {s:Shared}
theorem nextT_item {j t:Addr} {k:Nat} {its:Array Value} {v:Value} {Q:Value->Shared->Prop} (hj:s.heap.IsTupleIter j t k) (ht:s.heap.IsTuple t its) (hv:its[k]?=some v)
    (go:∀ h',h'.IsTupleIter j t (k + 1)->Heap.SameBut j s.heap h'->Q v { s with heap:=h' }):wpAny (model prog w) A (Builtin.SmallTypes.nextOf (.ref j)) Q E s:=by
  obtain ⟨oj,gj,cj,dj⟩:=id hj
  obtain ⟨ot,gt,_,nt,dt⟩:=ht
  unfold Builtin.SmallTypes.nextOf
  refine wpAny_bind (wpAny_callSpecial?_slot (name:=Str.ofString "__next__") hj.typeIs F.slot_tuple_iterator_next (wpAny_call_entry F.slot_tuple_iterator_next hj.typeIs F.entry_tuple_iterator_next ?_ (F.args_tuple_iterator_next_1 _)))
  refine wpAny_bind (m:=field (.ref j) 0) (wpAny_field gj dj (x:=.ref t) rfl ?_)
  show wpAny _ _ (if (Value.ref t == Value.none)=true then _ else _) _ _ s
  rw [if_neg (show ¬ ((Value.ref t == Value.none)=true) by exact Bool.false_ne_true)]
  refine wpAny_bind (m:=field (.ref j) 1) (wpAny_field gj dj (x:=.int k 0) rfl (wpAny_bind (m:=seqItems? (.ref t)) (wpAny_seqItems gt dt ?_)))
  simp only [hv,Int.toNat_natCast]
  refine wpAny_bind (wpAny_setField gj dj (by simp) (wpAny_pure ⟨v,rfl,wpAny_pure (go _ ⟨_,Heap.get?_update_self _ gj (Obj.isFreed_of_fields (Obj.data_mapFields dj _)),(Obj.cls_mapFields ..).trans cj,?_⟩ (Heap.SameBut.update ..))⟩))
  rw [Obj.data_mapFields dj]
  simp [rawInt]
theorem nextT_stop {j t:Addr} {k:Nat} {its:Array Value} {Q:Value->Shared->Prop} (hh:A.handled=none) (hj:s.heap.IsTupleIter j t k) (ht:s.heap.IsTuple t its) (hv:its[k]?=none)
    (go:∀ h' x,Heap.ExtBut j s.heap h'->(∃ o,h'.get? x=some o/\o.cls=.type "StopIteration")->E (.ref x) { s with heap:=h' }):wpAny (model prog w) A (Builtin.SmallTypes.nextOf (.ref j)) Q E s:=by
  obtain ⟨oj,gj,cj,dj⟩:=id hj
  obtain ⟨ot,gt,_,nt,dt⟩:=ht
  unfold Builtin.SmallTypes.nextOf
  refine wpAny_bind (wpAny_callSpecial?_slot (name:=Str.ofString "__next__") hj.typeIs F.slot_tuple_iterator_next (wpAny_call_entry F.slot_tuple_iterator_next hj.typeIs F.entry_tuple_iterator_next ?_ (F.args_tuple_iterator_next_1 _)))
  refine wpAny_bind (m:=field (.ref j) 0) (wpAny_field gj dj (x:=.ref t) rfl ?_)
  show wpAny _ _ (if (Value.ref t == Value.none)=true then _ else _) _ _ s
  rw [if_neg (show ¬ ((Value.ref t == Value.none)=true) by exact Bool.false_ne_true)]
  refine wpAny_bind (m:=field (.ref j) 1) (wpAny_field gj dj (x:=.int k 0) rfl (wpAny_bind (m:=seqItems? (.ref t)) (wpAny_seqItems gt dt ?_)))
  simp only [hv,Int.toNat_natCast]
  refine wpAny_bind (wpAny_rule (wpAny_bind (wpAny_setField gj dj (by simp) ?_)))
  refine wpAny_bind (m:=newExc (.type "StopIteration") []) ?_
  simp only [newExc,newTuple]
  refine wpAny_bind (wpAny_newObj_type (wpAny_bind (m:=firstArgMember _ _) (wpAny_of_eq (a:=Value.none) (by first | rfl | (simp only [firstArgMember]; rfl)) (wpAny_newObj_type ?_ (by size_fits)))) (by size_fits))
  simp only [raiseNew]
  refine wpAny_bind (wpAny_handled ?_)
  first | rw [show A.in1.handled=none from hh] | rw [hh]
  exact wpAny_bind (wpAny_pure (wpAny_throw (go _ _ (((Heap.SameBut.update ..).extBut.push _).push _) ⟨_,Heap.get?_push_size _ rfl,rfl⟩)))
theorem enum_turn {e j:Addr} {k:Nat} {v old:Value} {R:Heap->Prop} {Q:Value->Shared->Prop} (he:IsEnum s.heap e j k old) (hne:e≠j)
    (nx:∀ (Q':Value->Shared->Prop),(∀ h1,R h1->Heap.SameBut j s.heap h1->Q' v { s with heap:=h1 })->wpAny (model prog w) A (Builtin.SmallTypes.nextOf (.ref j)) Q' E s)
    (stay:∀ h h',R h->(∀ o,h.get? j=some o->h'.get? j=some o)->R h')
    (go:∀ h',IsEnumOut h' e j ((k:Int) + 1) v s.heap.objs.size->R h'->h'.get? s.heap.objs.size=some { cls:=.type "tuple",data:=.seq #[.int k s.toks,v] } ->
      (∀ b o,b≠e->b≠j->s.heap.get? b=some o->h'.get? b=some o)->Q (.ref s.heap.objs.size) { s with heap:=h',toks:=s.toks + 1 }) :
    wpAny (model prog w) A (Builtin.«enumerate.__next__» ⟨[.ref e],[]⟩) (λ fin s'=>∃ x,fin=.done (.ret x)/\Q x s') E s:=by
  obtain ⟨h0,gs,dr,tk,os⟩:=s
  have le:e < h0.objs.size:=Heap.lt_size he
  refine wpAny_bind (m:=field (.ref e) 2) (wpAny_field he rfl (x:=.ref j) rfl (wpAny_bind (nx _ λ h1 r1 b1=>?_)))
  have b1:Heap.SameBut j h0 h1:=b1
  have e1:IsEnum h1 e j k old:=(b1.2 e hne).trans he
  refine wpAny_bind (m:=field (.ref e) 3) (wpAny_field e1 rfl (x:=rawInt k) rfl (wpAny_bind (m:=field (.ref e) 4) (wpAny_field e1 rfl (x:=.none) rfl (wpAny_bind (m:=mkInt k) (wpAny_mkInt ?_)))))
  refine wpAny_bind (m:=setField (.ref e) 3 (rawInt ((k:Int) + 1))) (wpAny_setField_rec e1 (by simp) λ h2 e2 b2=>?_)
  have b2:Heap.SameBut e h1 h2:=b2
  have e2:IsEnum h2 e j ((k:Int) + 1) old:=e2
  refine wpAny_bind (m:=setField (.ref e) 4 .none) (wpAny_setField_rec e2 (by simp) λ h3 e3 b3=>?_)
  have b3:Heap.SameBut e h2 h3:=b3
  have e3:IsEnum h3 e j ((k:Int) + 1) old:=e3
  refine wpAny_bind (m:=newTuple [.int k tk,v]) (wpAny_newTuple ?_)
  have z3:h3.objs.size=h0.objs.size:=by rw [b3.1,b2.1,b1.1]
  rw [show (Value.ref (Shared.heap ⟨h3,gs,dr,tk + 1,os⟩).objs.size)=Value.ref h0.objs.size from congrArg Value.ref z3]
  have e4:IsEnum (h3.push { cls:=.type "tuple",data:=.seq #[.int k tk,v] }) e j ((k:Int) + 1) old:=Heap.get?_push_of_some _ e3
  have t4:(h3.push { cls:=.type "tuple",data:=.seq #[.int k tk,v] }).get? h0.objs.size=some { cls:=.type "tuple",data:=.seq #[.int k tk,v] }:=by rw [<- z3]; exact Heap.get?_push_size _ rfl
  have old4:∀ b o,b≠e->b≠j->h0.get? b=some o->(h3.push { cls:=.type "tuple",data:=.seq #[.int k tk,v] }).get? b=some o:=λ b o hb hb' g=>Heap.get?_push_of_some _ (b3.extBut b o hb (b2.extBut b o hb (b1.extBut b o hb' g)))
  have r4:R (h3.push { cls:=.type "tuple",data:=.seq #[.int k tk,v] }):=stay h1 _ r1 λ o g=>Heap.get?_push_of_some _ (b3.extBut j o (Ne.symm hne) (b2.extBut j o (Ne.symm hne) g))
  generalize h3.push { cls:=.type "tuple",data:=.seq #[.int k tk,v] }=h4 at e4 t4 old4 r4
  refine wpAny_bind (m:=Builtin.SmallTypes.ownedTupleIsFree (.ref e)) ?_
  unfold Builtin.SmallTypes.ownedTupleIsFree
  refine wpAny_bind (wpAny_field e4 rfl (x:=.none) rfl (wpAny_pure ?_))
  simp only [if_true]
  refine wpAny_bind (wpAny_rule (wpAny_bind (wpAny_field e4 rfl (x:=old) rfl (wpAny_bind (wpAny_setField_rec e4 (by simp) λ h5 e5 b5=>?_)))))
  have b5:Heap.SameBut e h4 h5:=b5
  have e5:IsEnum h5 e j ((k:Int) + 1) v:=e5
  refine wpAny_bind (m:=Builtin.SmallTypes.ownedTupleHandOut (.ref e) (.ref h0.objs.size)) ?_
  unfold Builtin.SmallTypes.ownedTupleHandOut
  refine wpAny_bind (wpAny_setField_rec e5 (by simp) λ h6 e6 b6=>?_)
  have b6:Heap.SameBut e h5 h6:=b6
  have e6:IsEnumOut h6 e j ((k:Int) + 1) v h0.objs.size:=e6
  refine wpAny_setField_rec e6 (by simp) λ h7 e7 b7=>?_
  have b7:Heap.SameBut e h6 h7:=b7
  have all:∀ b o,b≠e->h4.get? b=some o->h7.get? b=some o:=λ b o hb g=>b7.extBut b o hb (b6.extBut b o hb (b5.extBut b o hb g))
  exact wpAny_bind (wpAny_letGo (wpAny_pure ⟨_,rfl,go h7 e7 (stay h4 h7 r4 λ o g=>all j o (Ne.symm hne) g) (all _ _ (Nat.ne_of_gt le) t4) λ b o hb hb' g=>all b o hb (old4 b o hb hb' g)⟩))
theorem enum_item {e j:Addr} {k:Nat} {v old:Value} {R:Heap->Prop} {Q:Option Value->Shared->Prop} (he:IsEnum s.heap e j k old) (hne:e≠j)
    (nx:∀ (A':Around) (Q':Value->Shared->Prop) (E':Value->Shared->Prop),(∀ h1,R h1->Heap.SameBut j s.heap h1->Q' v { s with heap:=h1 })->wpAny (model prog w) A' (Builtin.SmallTypes.nextOf (.ref j)) Q' E' s)
    (stay:∀ h h',R h->(∀ o,h.get? j=some o->h'.get? j=some o)->R h')
    (go:∀ h',IsEnumOut h' e j ((k:Int) + 1) v s.heap.objs.size->R h'->h'.get? s.heap.objs.size=some { cls:=.type "tuple",data:=.seq #[.int k s.toks,v] } ->
      (∀ b o,b≠e->b≠j->s.heap.get? b=some o->h'.get? b=some o)->Q (some (.ref s.heap.objs.size)) { s with heap:=h',toks:=s.toks + 1 }):wpAny (model prog w) A (pyNext (.ref e)) Q E s:=by
  have ty:s.TypeIs (.ref e) "enumerate":=⟨_,he,rfl⟩
  unfold pyNext
  exact wpAny_bind (wpAny_attempt (wpAny_callSpecial?_slot (name:=Str.ofString "__next__") ty F.slot_enumerate_next (wpAny_call_entry F.slot_enumerate_next ty F.entry_enumerate_next
    (enum_turn he hne (λ Q' hq=>nx _ Q' _ hq) stay λ h' x1 x2 x3 x4=>wpAny_pure (go h' x1 x2 x3 x4)) (F.args_enumerate_next_1 _))))
theorem enum_stop {e j:Addr} {k:Nat} {old:Value} {Q:Option Value->Shared->Prop} (he:IsEnum s.heap e j k old)
    (nx:∀ (A':Around) (Q':Value->Shared->Prop) (E':Value->Shared->Prop),A'.handled=A.handled->(∀ h' x,Heap.ExtBut j s.heap h'->(∃ o,h'.get? x=some o/\o.cls=.type "StopIteration")->E' (.ref x) { s with heap:=h' })->wpAny (model prog w) A' (Builtin.SmallTypes.nextOf (.ref j)) Q' E' s)
    (go:∀ h',Heap.ExtBut j s.heap h'->Q none { s with heap:=h' }):wpAny (model prog w) A (pyNext (.ref e)) Q E s:=by
  have ty:s.TypeIs (.ref e) "enumerate":=⟨_,he,rfl⟩
  unfold pyNext
  refine wpAny_bind (wpAny_attempt (wpAny_callSpecial?_slot (name:=Str.ofString "__next__") ty F.slot_enumerate_next (wpAny_call_entry F.slot_enumerate_next ty F.entry_enumerate_next ?_ (F.args_enumerate_next_1 _))))
  refine wpAny_bind (m:=field (.ref e) 2) (wpAny_field he rfl (x:=.ref j) rfl (wpAny_bind (nx _ _ _ rfl λ h' x b hx=>?_)))
  obtain ⟨o,go',hc⟩:=hx
  exact wpAny_bind (wpAny_isInstance (T:="StopIteration") (b:=true) ⟨o,go',hc⟩ isSubtype_stop (wpAny_pure (go _ b)))
end
section
open PySem.AutoSeq1 (wpAny_loadPart')
theorem meets_enumT (t:Addr) (its:Array Value) (n:Nat) (dd:Option Addr) (sl:Array (Option Value)):Meets (Builtin.«enumerate.__new__» ⟨[.type "enumerate",.ref t],[]⟩) (λ _ R s=>s.heap.get? t=some { cls:=.type "tuple",dict:=dd,data:=.seq its n,slots:=sl } /\
    R (.ok (.ret (.ref (s.heap.push { cls:=.type "tuple_iterator",data:=.fields #[.ref t,.int 0 0] }).objs.size))) { s with heap:=(s.heap.push { cls:=.type "tuple_iterator",data:=.fields #[.ref t,.int 0 0] }).push { cls:=.type "enumerate",data:=.fields #[.none,.bool false,.ref s.heap.objs.size,rawInt 0,.none,.none] } }) :=
  .of_wp λ prog w A R s hh=>by
    obtain ⟨h0,gs,dr,tk,os⟩:=s
    obtain ⟨gt,hR⟩:=hh
    have se:=sub_enumerate
    have iT:Heap.IsTuple (Shared.heap ⟨h0,gs,dr,tk,os⟩) t its:=⟨_,gt,rfl,n,rfl⟩
    wp_walk using wpAny_loadPart' gt
    refine wpAny_stack_any λ st=>wpAny_pure ?_
    split
    · rename_i c _ _ _ _ _
      cases (c == Value.type "enumerate") <;> (wp_walk using wpAny_loadPart' gt,wpAny_pyIter_tuple iT; exact ⟨_,rfl,hR⟩)
    · wp_walk using wpAny_loadPart' gt,wpAny_pyIter_tuple iT
      exact ⟨_,rfl,hR⟩
end
def SqQ (K:PySem.W.Frag) (q:Bool) (H:Hp) (a:Addr) (xs:List V):Prop:=match q with
  | true=>SqT K H a xs
  | false=>SqL K H a xs
def innerQ (q:Bool) (j a:Addr) (i:Nat) (h:Heap):Prop:=match q with
  | true=>h.IsTupleIter j a i
  | false=>h.IsListIter j a i
def Ite (K:PySem.W.Frag) (q:Bool) (a:Addr):It :=
  ⟨λ i H=>∃ xs x,SqQ K q H a xs/\xs[i]?=some x,λ i H x H'=>∃ p v,H p=none/\H'=upd H p (.tup [.int i,v])/\x=.ref p/\∀ xs,SqQ K q H a xs->xs[i]?=some v,λ i H=>∃ xs,SqQ K q H a xs/\xs.length<=i⟩
section
variable {X:Cx} {pins:List (Addr×Obj)} {σ:L2.St} {H:Hp} {s:Shared}
theorem Inv.enumd {e j:Addr} {i:Nat} {x:V} {u:Value} {h':Heap} {t' tk:Nat} (I:L2.Inv X pins σ H s) (fe:FpOk X pins H e) (fj:FpOk X pins H j) (ru:RelV x u) (hp:h'.get? s.heap.objs.size=some { cls:=.type "tuple",data:=.seq #[.int i tk,u] })
    (kp:∀ b o,b≠e->b≠j->s.heap.get? b=some o->h'.get? b=some o) (th:∀ b o,s.heap.get? b=some o->∃ o',h'.get? b=some o'):L2.Inv X pins σ (upd H s.heap.objs.size (.tup [.int i,x])) { s with heap:=h',toks:=t' }:=by
  have fr:H s.heap.objs.size=none:=I.fresh
  have ne:∀ b o,s.heap.get? b=some o->b≠s.heap.objs.size:=λ b o g=>Nat.ne_of_lt (Heap.lt_size g)
  have nh:∀ b o,H b=some o->b≠s.heap.objs.size:=λ b o g z=>by rw [z,fr] at g; cases g
  have nf:∀ b o,H b=some o->b≠e/\b≠j:=λ b o g=>⟨λ z=>(by rw [z,fe.1] at g; cases g),λ z=>(by rw [z,fj.1] at g; cases g)⟩
  have nch:∀ b,b∉[e,j]->b≠e/\b≠j:=λ b h=>⟨λ z=>h (by simp [z]),λ z=>h (by simp [z])⟩
  refine I.step (g':=s.gens) (d':=s.drawn) (ch:=[e,j]) (λ b hb=>?_) (λ b o _ _ hc g _=>kp b o (nch b hc).1 (nch b hc).2 g) (λ b o _ _ hc g _=>⟨o.slots,kp b o (nch b hc).1 (nch b hc).2 g⟩) (λ b o _ g n=>by rw [upd_ne (ne b o g)]; exact n)
    (λ b o _ g=>th b o g) (λ b ys g=>by rw [upd_ne (nh b _ g)]; exact g) (λ b o ys g=>by rw [upd_ne (nh b _ g)]; exact g) (λ b ps g=>⟨#[],by rw [upd_ne (nh b _ g),g]; simp⟩) (λ m hm=>?_) (λ b o g=>?_) I.bare
  · rcases List.mem_cons.mp hb with z | hb
    · subst z; exact ⟨fe.2.2.2.1,fe.2.1,fe.2.2.2.2.1,fe.2.2.2.2.2⟩
    · rcases List.mem_cons.mp hb with z | hb
      · subst z; exact ⟨fj.2.2.2.1,fj.2.1,fj.2.2.2.2.1,fj.2.2.2.2.2⟩
      · cases hb
  · obtain ⟨o,es,ep,g,r⟩:=hm
    exact ⟨o,es,ep,kp _ o (Ne.symm fe.2.1) (Ne.symm fj.2.1) g,r⟩
  · by_cases z:b=s.heap.objs.size
    · subst z
      rw [upd_same] at g
      cases g
      exact ⟨(by show 2<=sizeLine; decide),[.int i tk,u],.cons ⟨tk,rfl⟩ (.cons ru .nil),_,hp,rfl,_,rfl⟩
    · rw [upd_ne z] at g
      have keepH:∀ c o,H c=some o->upd H s.heap.objs.size (.tup [.int i,x]) c=some o:=λ c o gc=>by rw [upd_ne (nh c o gc)]; exact gc
      refine (I.hok b o g).stay (λ c v hc gv=>?_) (λ c gc=>keepH c _ gc) λ c ys gc=>keepH c _ gc
      rcases hc with z' | z'
      · subst z'; exact kp c v (nf c o g).1 (nf c o g).2 gv
      · exact kp c v (nf c _ z').1 (nf c _ z').2 gv
end
theorem there_enum {e j p:Addr} {h h1 h2:Heap} (a:∀ b o,b≠e->b≠j->h.get? b=some o->h1.get? b=some o) (ej:∃ o,h1.get? e=some o) (jj:∃ o,h1.get? j=some o) (sb:Heap.SameBut e h1 h2) (e2:∃ o,h2.get? e=some o):∀ b o,h.get? b=some o->∃ o',h2.get? b=some o':=λ b o g=>by
  by_cases z:b=e
  · subst z; exact e2
  · by_cases z':b=j
    · subst z'
      obtain ⟨o',g'⟩:=jj
      exact ⟨o',(sb.2 b z).trans g'⟩
    · exact ⟨o,(sb.2 b z).trans (a b o z z' g)⟩
theorem inner_at {q:Bool} {j a:Addr} {i:Nat} {h h':Heap} (st:innerQ q j a i h) (k:∀ o,h.get? j=some o->h'.get? j=some o):innerQ q j a i h':=by
  cases q with
  | true=>exact Heap.IsTupleIter.at st k
  | false=>exact Heap.IsListIter.at st k
theorem inner_there {q:Bool} {j a:Addr} {i:Nat} {h:Heap} (st:innerQ q j a i h):∃ o,h.get? j=some o/\∀ v,o.data≠.cell v:=by
  cases q with
  | true=>obtain ⟨o,g,_,d⟩:=st; exact ⟨o,g,λ v z=>by rw [d] at z; cases z⟩
  | false=>obtain ⟨o,g,_,d⟩:=st; exact ⟨o,g,λ v z=>by rw [d] at z; cases z⟩
theorem turn_enum {P:Program} {w:World} {K:PySem.W.Frag} {elts:List Expr} {x1:Nat} {pos:Pos} (q:Bool) (a e j:Addr) (hej:e≠j):Turn P w K (.Tuple elts x1 pos) (Ite K q a) [e,j] e (λ i h=>(∃ old,IsEnum h e j i old)/\innerQ q j a i h) where
  mem:=by simp
  obj:=λ i h st b hb=>by
    rcases List.mem_cons.mp hb with z | hb
    · subst z
      obtain ⟨⟨old,g⟩,_⟩:=st
      exact ⟨_,g,λ v z=>by have z':Data.fields _=Data.cell v:=z; cases z'⟩
    · have z:b=j:=by simpa using hb
      subst z
      exact inner_there st.2
  keep:=λ i h h' st k=>by
    obtain ⟨⟨old,g⟩,st⟩:=st
    exact ⟨⟨old,k e (by simp) _ g⟩,inner_at st λ o g=>k j (by simp) o g⟩
  item:=by
    intro X hP hw hK hc i pins s σ H E I hf st hg
    subst hP hw hK
    obtain ⟨⟨old,he⟩,st⟩:=st
    obtain ⟨xs,x,hq,hx⟩:=hg
    have fe:=hf e (by simp)
    have fj:=hf j (by simp)
    have fin:∀ u,RelV x u->∀ h',IsEnumOut h' e j ((i:Int) + 1) u s.heap.objs.size->innerQ q j a (i + 1) h'->h'.get? s.heap.objs.size=some { cls:=.type "tuple",data:=.seq #[.int i s.toks,u] } ->
        (∀ b o,b≠e->b≠j->s.heap.get? b=some o->h'.get? b=some o)->(∀ ys,SqQ X.K q H a ys->ys[i]?=some x)->∃ v,some (Value.ref s.heap.objs.size)=some v/\wpAny (model X.prog X.w) X.A (letOwnedTupleGo (.Tuple elts x1 pos) (.ref e) v)
          (λ _ s2=>∃ x H',L2.Inv X pins σ H' s2/\RelV x v/\(Ite X.K q a).yld i H x H'/\((∃ old,IsEnum s2.heap e j ((i + 1:Nat):Int) old)/\innerQ q j a (i + 1) s2.heap)/\∀ b∈[e,j],H' b=none) E { s with heap:=h',toks:=s.toks + 1 }:=λ u ru h' ho hin hp kp hy=>by
      refine ⟨_,rfl,wpAny_letOwnedTupleGo_enum (s:={ s with heap:=h',toks:=s.toks + 1 }) ho λ h2 he2 sb=>?_⟩
      have sb:Heap.SameBut e h' h2:=sb
      obtain ⟨oj,gj,_⟩:=inner_there hin
      have le:e < s.heap.objs.size:=Heap.lt_size he
      have lj:j < s.heap.objs.size:=by obtain ⟨o,g,_⟩:=inner_there st; exact Heap.lt_size g
      refine ⟨.ref s.heap.objs.size,upd H s.heap.objs.size (.tup [.int i,x]),Inv.enumd (tk:=s.toks) (t':=s.toks + 1) I fe fj ru ((sb.2 _ (Nat.ne_of_gt le)).trans hp) (λ b o hb hb' g=>(sb.2 b hb).trans (kp b o hb hb' g)) (there_enum (p:=e) kp ⟨_,ho⟩ ⟨oj,gj⟩ sb ⟨_,he2⟩),rfl,
        ⟨_,x,I.fresh,rfl,rfl,hy⟩,⟨⟨u,he2⟩,inner_at hin λ o g=>(sb.2 j (Ne.symm hej)).trans g⟩,λ b hb=>?_⟩
      rcases List.mem_cons.mp hb with z | hb
      · subst z; rw [upd_ne (Nat.ne_of_lt le)]; exact fe.1
      · have z:b=j:=by simpa using hb
        subst z; rw [upd_ne (Nat.ne_of_lt lj)]; exact fj.1
    cases q with
    | true =>
      obtain ⟨its,rv,p,hz⟩:=I.tuple hq
      obtain ⟨u,hu,ru⟩:=rv.get hx
      exact enum_item (R:=innerQ true j a (i + 1)) he hej (λ A' Q' E' hq'=>nextT_item st (show s.heap.IsTuple a its.toArray from p) (by simpa using hu) hq') (λ h h' r k=>inner_at r k) λ h' x1 x2 x3 x4=>fin u ru h' x1 x2 x3 x4 λ ys hys=>by rw [I.tuple_inj hys hq]; exact hx
    | false =>
      obtain ⟨its,rv,p,hz⟩:=I.list hq
      obtain ⟨u,hu,ru⟩:=rv.get hx
      exact enum_item (R:=innerQ false j a (i + 1)) he hej (λ A' Q' E' hq'=>wpAny_nextOf_list_item st p.isList (by simpa using hu) hq') (λ h h' r k=>inner_at r k) λ h' x1 x2 x3 x4=>fin u ru h' x1 x2 x3 x4 λ ys hys=>by rw [I.list_inj hys hq]; exact hx
  done:=by
    intro X hP hw hK hc i pins s σ H E I hf st hg
    subst hP hw hK
    obtain ⟨⟨old,he⟩,st⟩:=st
    obtain ⟨xs,hq,hx⟩:=hg
    obtain ⟨f0,f1,f2,f3,f4,f5⟩:=hf j (by simp)
    have hh:=I.ok.hd hc
    cases q with
    | true =>
      obtain ⟨its,rv,p,hz⟩:=I.tuple hq
      have hl:=rv.length
      exact enum_stop he (λ A' Q' E' hA go=>nextT_stop (hA.trans hh) st (show s.heap.IsTuple a its.toArray from p) (by simp; omega) go) λ h' eb=>⟨rfl,I.turned (t':=s.toks) (λ b o hb g=>eb b o hb g) f0 f1 f3 f4 f5⟩
    | false =>
      obtain ⟨its,rv,p,hz⟩:=I.list hq
      have hl:=rv.length
      exact enum_stop he (λ A' Q' E' hA go=>wpAny_nextOf_list_end (hA.trans hh) st p.isList (by simp; omega) go) λ h' eb=>⟨rfl,I.turned (t':=s.toks) (λ b o hb g=>eb b o hb g) f0 f1 f3 f4 f5⟩
  self:=λ _ _ _ _ _ st h=>let ⟨⟨_,g⟩,_⟩:=st; wpAny_pyIter_enum g h
section
variable {X:Cx} {W:XP} {a:Expr} {f:Ga->R D} {p pos tpos:Pos} {elts:List Expr} {x1:Nat}
def enumL (ds:List D):List D:=(List.range ds.length).map λ (k:Nat)=>D.tup [.int (k:Int),ds.getD k .non]
def enumD (d:D):Option (List D):=match d with
  | .tup ds=>some (enumL ds)
  | .lst ds=>some (enumL ds)
  | _=>none
def iEnum (K:PySem.W.Frag) (ta:TE):TI:=λ σ H R=>ta σ H λ x H1=>∃ q a,x=.ref a/\(∃ xs,SqQ K q H1 a xs)/\R (Ite K q a) H1
theorem enum_made {s:Shared} {t:Addr} {its:Array Value} {Q:Value->Shared->Prop} {prog:Program} {w:World} {A:Around} {E:Value->Shared->Prop} (ht:s.heap.IsTuple t its)
    (go:∀ h',IsEnum h' (s.heap.objs.size + 1) s.heap.objs.size 0 .none->h'.IsTupleIter s.heap.objs.size t 0->(∀ b o,s.heap.get? b=some o->h'.get? b=some o)->Q (.ref (s.heap.objs.size + 1)) { s with heap:=h' }) :
    wpAny (model prog w) A (call (.type "enumerate") [.ref t]) Q E s:=by
  obtain ⟨⟨c,dd,dt,sl⟩,gt,hc,n,hd⟩:=ht
  cases hc
  cases hd
  refine callType_new F.called_enumerate (by decide) (F.typeCall_enumerate_1 _) (F.newCall_enumerate_1 _) (λ obj=>F.args_object_init_2 obj _) F.entry_enumerate_new (meets_enumT t its n dd sl) ⟨gt,?_⟩
  have hz:(s.heap.push { cls:=.type "tuple_iterator",data:=.fields #[.ref t,.int 0 0] }).objs.size=s.heap.objs.size + 1:=Heap.size_push ..
  have he:=Heap.get?_push_size (s.heap.push { cls:=.type "tuple_iterator",data:=.fields #[.ref t,.int 0 0] }) (o:={ cls:=.type "enumerate",data:=.fields #[.none,.bool false,.ref s.heap.objs.size,rawInt 0,.none,.none] }) rfl
  rw [hz] at he
  show _/\_
  rw [hz]
  exact ⟨⟨_,he,rfl⟩,go _ he ⟨_,Heap.get?_push_of_some _ (Heap.get?_push_size _ rfl),rfl,rfl⟩ λ b o g=>Heap.get?_push_of_some _ (Heap.get?_push_of_some _ g)⟩
theorem pi_enum {ta:TE} (hg:Gl X "enumerate") (hm:X.mg "enumerate"=none) (ha:PE X a ta) (hs:starEach [a] X.env=[(false,eval a X.env)]:=by rfl):PI X (.Tuple elts x1 tpos) (.Call (.Name "enumerate" p) [a] [] pos) (iEnum X.K ta):=by
  intro pins s σ H R I h
  refine Call_ (ld_blt I hg hm boot_enumerate (PyProof.Rows.callWith_type1 (thn (pa_cons ha pa_nil hs pos pins s σ H (λ vs H1=>∃ v,vs=[v]/\∃ q a,v=.ref a/\(∃ xs,SqQ X.K q H1 a xs)/\R (Ite X.K q a) H1) I ?_) λ us s1 ⟨vs,H1,I1,r1,q1⟩=>?_) hs rfl))
  · have h':ta σ H λ x H1=>∃ q a,x=.ref a/\(∃ xs,SqQ X.K q H1 a xs)/\R (Ite X.K q a) H1:=h
    have mono:∀ (Q1 Q2:VK),(∀ v H,Q1 v H->Q2 v H)->Q1=Q1:=λ _ _ _=>rfl
    show ta σ H λ x H1=>∃ v,[x]=[v]/\∃ q a,v=.ref a/\(∃ xs,SqQ X.K q H1 a xs)/\R (Ite X.K q a) H1
    have e:(λ (x:V) (H1:Hp)=>∃ v,[x]=[v]/\∃ q a,v=.ref a/\(∃ xs,SqQ X.K q H1 a xs)/\R (Ite X.K q a) H1)=(λ x H1=>∃ q a,x=.ref a/\(∃ xs,SqQ X.K q H1 a xs)/\R (Ite X.K q a) H1):=by
      funext x H1
      refine propext ⟨?_,λ z=>⟨x,rfl,z⟩⟩
      rintro ⟨v,e,z⟩
      cases e
      exact z
    rw [e]
    exact h'
  · obtain ⟨v,rfl,q,l,rfl,⟨xs,hq⟩,hR⟩:=q1
    obtain ⟨u,rfl,ru⟩:=r1.one
    obtain rfl:u=Value.ref l:=ru
    have fin:∀ h',IsEnum h' (s1.heap.objs.size + 1) s1.heap.objs.size 0 .none->innerQ q s1.heap.objs.size l 0 h'->(∀ b o,s1.heap.get? b=some o->h'.get? b=some o) ->
        wpAny (model X.prog X.w) X.A (pyIter (.ref (s1.heap.objs.size + 1))) (PIE X pins σ (.Tuple elts x1 tpos) R) X.xe { s1 with heap:=h' }:=λ h' he hin kp=>by
      refine wpAny_pyIter_enum (s:={ s1 with heap:=h' }) he ?_
      refine ⟨s1.heap.objs.size + 1,[s1.heap.objs.size + 1,s1.heap.objs.size],_,_,H1,rfl,I1.kept (t':=s1.toks) kp,turn_enum q l _ _ (by simp),⟨⟨_,he⟩,hin⟩,λ b hb=>?_,hR⟩
      rcases List.mem_cons.mp hb with z | hb
      · subst z; exact I1.fpOk (Nat.le_succ _) (I1.hok.fresh (Nat.le_succ _))
      · have z:b=s1.heap.objs.size:=by simpa using hb
        subst z; exact I1.fpOk (Nat.le_refl _) (I1.hok.fresh (Nat.le_refl _))
    cases q with
    | true =>
      obtain ⟨its,rv,pt,hz⟩:=I1.tuple hq
      exact enum_made (show s1.heap.IsTuple l its.toArray from pt) λ h' he hin kp=>fin h' he hin kp
    | false =>
      obtain ⟨its,rv,pl,hz⟩:=I1.list hq
      exact call_enumerate_list pl.isList λ h' he hin _ kp=>fin h' he hin kp
def iE (f:Ga->R D):Ga->R (List D):=λ Γ=>(f Γ).bind λ d=>.ofO (enumD d)
theorem it_enum (hg:Gl X "enumerate") (hm:X.mg "enumerate"=none) (he:EvD X W a f) (hs:starEach [a] X.env=[(false,eval a X.env)]:=by rfl):ItD X W (.Tuple elts x1 tpos) (.Call (.Name "enumerate" p) [a] [] pos) (iE f):=by
  obtain ⟨t,pe,q⟩:=he
  refine ⟨_,pi_enum hg hm pe hs,λ H₀ G₀ Γ σ H G R Q w=>?_⟩
  refine q _ _ _ _ _ _ R _ (wStep w (λ _ h=>h) λ d w v H' G' E1 d1=>?_)
  obtain ⟨ds,e2,k⟩:=wOfO w
  have main:∀ (b:Bool) (a:Addr) (xs:List D) (vs:List V),SqQ X.K b G' a vs->DenL X.K G' xs vs->ds=enumL xs->∃ q a',V.ref a=.ref a'/\(∃ xs,SqQ X.K q H' a' xs)/\Q (Ite X.K q a') H':=λ b a xs vs sq l hds=>by
    have up:∀ {H2:Hp},Same G' H2->SqQ X.K b H2 a vs:=λ {H2} g=>by
      cases b with
      | true=>exact Same.seqT g sq
      | false=>exact g.seq sq
    subst hds
    refine ⟨b,a,rfl,⟨vs,up E1.gh⟩,k _ H' G' E1 λ i H2 G2 g2 h2=>⟨λ d hd=>?_,λ hi=>⟨vs,up (g2.trans h2),?_⟩⟩⟩
    · unfold enumL at hd
      rw [List.getElem?_map] at hd
      obtain ⟨m,em,ed⟩:=Option.map_eq_some_iff.mp hd
      obtain ⟨hm',e3⟩:=List.getElem?_eq_some_iff.mp em
      rw [List.getElem_range] at e3
      rw [List.length_range] at hm'
      subst e3
      obtain ⟨v,hv,dv⟩:=l.get (List.getElem?_eq_getElem hm')
      refine ⟨⟨vs,v,up (g2.trans h2),hv⟩,λ x H3 ⟨p,v',hp,eH,ex,hy⟩=>?_⟩
      have hv':=hy vs (up (g2.trans h2))
      rw [hv] at hv'
      cases hv'
      subst eH ex ed
      have A:=Ext.alloc (o:=.tup [.int i,v]) h2 hp
      refine ⟨_,A,den_tup.mpr ⟨p,_,rfl,SqT.of upd_same,denL_cons.mpr ⟨_,_,rfl,den_int,.one ?_⟩⟩⟩
      rw [List.getD_eq_getElem?_getD,List.getElem?_eq_getElem hm']
      exact (dv.up g2).up A.gg
    · have hi':=hi
      unfold enumL at hi'
      rw [List.length_map,List.length_range] at hi'
      rw [<- l.length]
      exact hi'
  cases d with
  | tup xs =>
    cases e2
    obtain ⟨a,vs,rfl,s,l⟩:=den_tup.mp d1
    exact main true a xs vs s l rfl
  | lst xs =>
    cases e2
    obtain ⟨a,vs,rfl,s,l⟩:=den_lst.mp d1
    exact main false a xs vs s l rfl
  | _=>cases e2
end
end Wy


namespace Wy
open PySem PySem.Spec PyProof.Rows L2
def allS:Bool×List D->Option D:=λ p=>match p with
  | (false,ds)=>(asBs ds).bind λ bs=>some (.bl (bs.all id))
  | _=>none
def tupS:Bool×List D->Option D:=λ p=>some (.tup p.2)
def RS.seq (r:RS) (U:Ga->RS):RS:=match r with
  | .nx Γ'=>U Γ'
  | r=>r
def RS.fin (r:RS):R D:=match r with
  | .rt d=>.ok d
  | .nx _=>.ok .non
  | .ex c _=>.ex c
  | _=>.no
@[simp] theorem callR_eq (N:List Str) (s:Ga->RS) (ds:List D):callR N s ds=(s (begin_ N ds)).fin:=nr rfl
section
variable {α β:Type} {Γ Γ':Ga} {d x y:D} {xs:List D} {f fa fb fc:Ga->R D} {fl:Ga->R (List D)} {fs:Ga->R (Bool×List D)} {g ga gb:Ga->R Bool} {T U:Ga->RS} {F F':D->D->Option D} {n:Nat} {sl:Sl} {c:Str}
@[simp] theorem seq_nx:RS.seq (.nx Γ) U=U Γ:=nr rfl
@[simp] theorem seq_rt:RS.seq (.rt d) U=.rt d:=nr rfl
@[simp] theorem fin_rt:RS.fin (.rt d)=.ok d:=nr rfl
@[simp] theorem fin_no:RS.fin .no=.no:=nr rfl
@[simp] theorem fin_ite {p:Prop} [Decidable p] {a b:RS}:RS.fin (if p then a else b)=if p then RS.fin a else RS.fin b:=by split <;> rfl
@[simp] theorem bind_ite {p:Prop} [Decidable p] {a b:R α} {k:α->R β}:R.bind (if p then a else b) k=if p then R.bind a k else R.bind b k:=by split <;> rfl
@[simp] theorem of_ite {p:Prop} [Decidable p] {a b:R α} {k:α->RS}:RS.of (if p then a else b) Γ k=if p then RS.of a Γ k else RS.of b Γ k:=by split <;> rfl
@[simp] theorem eC_eq:eC d Γ=.ok d:=nr rfl
@[simp] theorem eV_zero:eV 0 (.val d::Γ)=.ok d:=nr rfl
@[simp] theorem eV_succ:eV (n + 1) (sl::Γ)=eV n Γ:=by simp [eV]
@[simp] theorem sV_lst:sV 0 (.val (.lst xs)::Γ)=.ok (false,xs):=nr rfl
@[simp] theorem sV_own:sV 0 (.own xs::Γ)=.ok (false,xs):=nr rfl
@[simp] theorem sV_succ:sV (n + 1) (sl::Γ)=sV n Γ:=by simp [sV]
@[simp] theorem sE_eq:sE f Γ=(f Γ).bind λ d=>.ofO (seqOf d):=nr rfl
@[simp] theorem seqOf_lst:seqOf (.lst xs)=some (false,xs):=nr rfl
@[simp] theorem sO_eq:sO fl Γ=(fl Γ).bind λ ds=>.ok (false,ds):=nr rfl
@[simp] theorem eO_eq:eO fl Γ=(fl Γ).bind λ ds=>.ok (.lst ds):=nr rfl
@[simp] theorem aNil_eq:aNil Γ=.ok []:=nr rfl
@[simp] theorem aCons_eq:aCons f fl Γ=(f Γ).bind λ d=>(fl Γ).bind λ ds=>.ok (d::ds):=nr rfl
@[simp] theorem eTup_eq:eTup fl Γ=(fl Γ).bind λ ds=>.ok (.tup ds):=nr rfl
@[simp] theorem e2_eq:e2 F fa fb Γ=(fa Γ).bind λ x=>(fb Γ).bind λ y=>.ofO (F x y):=nr rfl
@[simp] theorem asB_bl {b:Bool}:asB (.bl b)=some b:=nr rfl
@[simp] theorem tB_eq:Wy.tB f Γ=(f Γ).bind λ d=>.ofO (asB d):=nr rfl
def chainK (k:D) (r:R D):R D:=match k with
  | .bl true=>r
  | .bl false=>.ok (.bl false)
  | _=>.no
@[simp] theorem chainK_bl {b:Bool} {r:R D}:chainK (.bl b) r=if b=true then r else .ok (.bl false):=by cases b <;> rfl
@[simp] theorem e3_eq:e3 F F' fa fb fc Γ=(fa Γ).bind λ x=>(fb Γ).bind λ y=>(R.ofO (F x y)).bind λ z=>chainK z ((fc Γ).bind λ w=>.ofO (F' y w)):=nr rfl
def orK (k:D) (r:R D):R D:=match k with
  | .bl true=>.ok (.bl true)
  | .bl false=>r
  | _=>.no
@[simp] theorem orK_bl {b:Bool} {r:R D}:orK (.bl b) r=if b=true then .ok (.bl true) else r:=by cases b <;> rfl
@[simp] theorem eAnd_eq:eAnd fa fb Γ=(fa Γ).bind λ x=>chainK x (fb Γ):=nr rfl
@[simp] theorem eOr_eq:eOr fa fb Γ=(fa Γ).bind λ x=>orK x (fb Γ):=nr rfl
def notK (k:D):R D:=match k with
  | .bl k=>.ok (.bl (!k))
  | _=>.no
@[simp] theorem notK_bl {b:Bool}:notK (.bl b)=.ok (.bl (!b)):=nr rfl
@[simp] theorem eNot_eq:eNot fa Γ=(fa Γ).bind notK:=nr rfl
def negK (k:D):R D:=match k with
  | .int i=>.ok (.int (-i))
  | _=>.no
@[simp] theorem negK_int {i:Int}:negK (.int i)=.ok (.int (-i)):=nr rfl
@[simp] theorem eNeg_eq:eNeg fa Γ=(fa Γ).bind negK:=nr rfl
@[simp] theorem tAndR_eq:tAndR ga gb Γ=(ga Γ).bind λ k=>if k=true then gb Γ else .ok false:=by
  show (ga Γ).bind _=_
  congr 1; funext k; cases k <;> rfl
@[simp] theorem tOrR_eq:tOrR ga gb Γ=(ga Γ).bind λ k=>if k=true then .ok true else gb Γ:=by
  show (ga Γ).bind _=_
  congr 1; funext k; cases k <;> rfl
@[simp] theorem tNotR_eq:tNotR ga Γ=(ga Γ).bind λ k=>.ok (!k):=nr rfl
@[simp] theorem tTru_eq:tTru f Γ=(f Γ).bind λ d=>.ofO (truD d):=nr rfl
@[simp] theorem truD_bl {b:Bool}:truD (.bl b)=some b:=nr rfl
@[simp] theorem eCall_eq {M:List D->R D}:eCall M fl Γ=(fl Γ).bind M:=nr rfl
@[simp] theorem eB_eq {M:List D->Option D}:eB M fl Γ=(fl Γ).bind λ ds=>.ofO (M ds):=nr rfl
@[simp] theorem eS_eq {M:Bool×List D->Option D}:eS M fs Γ=(fs Γ).bind λ p=>.ofO (M p):=nr rfl
@[simp] theorem lenD_tup:lenD [.tup xs]=some (.int xs.length):=nr rfl
@[simp] theorem lenD_lst:lenD [.lst xs]=some (.int xs.length):=nr rfl
@[simp] theorem tupS_eq {b:Bool}:tupS (b,xs)=some (.tup xs):=nr rfl
@[simp] theorem oList_eq:oList fs Γ=(fs Γ).bind λ p=>.ok p.2:=nr rfl
@[simp] theorem ixD_tup {i:Int}:ixD (.tup xs) (.int i)=atI xs i:=nr rfl
@[simp] theorem ixD_lst {i:Int}:ixD (.lst xs) (.int i)=atI xs i:=nr rfl
@[simp] theorem ixS_int {b:Bool} {i:Int}:ixS (b,xs) (.int i)=atI xs i:=nr rfl
@[simp] theorem eIxS_eq:eIxS fs fb Γ=(fs Γ).bind λ p=>(fb Γ).bind λ y=>.ofO (ixS p y):=nr rfl
@[simp] theorem asI_int {i:Int}:asI (.int i)=some i:=nr rfl
@[simp] theorem oI_eq:oI f Γ=(f Γ).bind λ d=>(R.ofO (asI d)).bind λ i=>.ok (some i):=nr rfl
@[simp] theorem cutS_eq {l h:Option Int}:cutS (false,xs) l h=some (cut xs l h):=nr rfl
@[simp] theorem oSl_eq {gl gh:Ga->R (Option Int)}:oSl fs gl gh Γ=(fs Γ).bind λ d=>(gl Γ).bind λ l=>(gh Γ).bind λ h=>.ofO (cutS d l h):=nr rfl
@[simp] theorem fin_of {x:R D}:(RS.of x Γ λ d=>.rt d).fin=x:=by cases x <;> rfl
@[simp] theorem eIsi_eq {k:String->Bool}:eIsi k fa Γ=(fa Γ).bind λ d=>.ok (.bl (k (tyN d))):=nr rfl
@[simp] theorem int2_int {k:Int->Int->Option D} {i j:Int}:int2 k (.int i) (.int j)=k i j:=nr rfl
@[simp] theorem ltD_int {i j:Int}:ltD (.int i) (.int j)=some (.bl (decide (i < j))):=nr rfl
@[simp] theorem mulI_r {i j:Int} (h:-(2 ^ 64) < j/\j < 2 ^ 64):mulI i j=some (.int (i * j)):=if_pos (.inr h)
@[simp] theorem mulI_l {i j:Int} (h:-(2 ^ 64) < i/\i < 2 ^ 64):mulI i j=some (.int (i * j)):=if_pos (.inl h)
@[simp] theorem modI_pos {i j:Int} (h:0 < j):modI i j=some (.int (i % j)):=if_pos h
@[simp] theorem sNext_eq:sNext Γ=.nx Γ:=nr rfl
@[simp] theorem sSeq_eq:sSeq T U Γ=RS.seq (T Γ) U:=nr rfl
@[simp] theorem sRet_eq:sRet f Γ=.of (f Γ) Γ λ d=>.rt d:=nr rfl
@[simp] theorem sRetO_eq:sRetO n Γ=match Γ[n]? with | some (.own xs)=>.rt (.lst xs) | _=>.no:=nr rfl
@[simp] theorem sSet_eq:sSet n f Γ=.of (f Γ) Γ λ d=>.nx (Γ.set n (.val d)):=nr rfl
@[simp] theorem sSetO_eq:sSetO n fl Γ=.of (fl Γ) Γ λ d=>.nx (Γ.set n (.own d)):=nr rfl
@[simp] theorem sIf_eq:sIf g T U Γ=.of (g Γ) Γ λ k=>if k=true then T Γ else U Γ:=by
  show RS.of (g Γ) Γ _=_
  congr 1; funext k; cases k <;> rfl
@[simp] theorem sApp_eq:sApp n f Γ=match Γ[n]? with | some (.own xs)=>.of (f Γ) Γ λ d=>if xs.length < 16000000 then .nx (Γ.set n (.own (xs++[d]))) else .no | _=>.no:=nr rfl
@[simp] theorem gName_eq:gName' n d Γ=some (Γ.set n (.val d)):=nr rfl
@[simp] theorem iL_eq:iL f Γ=(f Γ).bind λ d=>.ofO (asL d):=nr rfl
@[simp] theorem iT_eq:iT f Γ=(f Γ).bind λ d=>.ofO (asT d):=nr rfl
@[simp] theorem asL_lst:asL (.lst xs)=some xs:=nr rfl
@[simp] theorem asT_tup:asT (.tup xs)=some xs:=nr rfl
@[simp] theorem iR1_eq:iR1 fl Γ=(fl Γ).bind λ d=>.ofO (rng1 d):=nr rfl
@[simp] theorem iE_eq:iE f Γ=(f Γ).bind λ d=>.ofO (enumD d):=nr rfl
@[simp] theorem enumD_tup:enumD (.tup xs)=some (enumL xs):=nr rfl
@[simp] theorem enumD_lst:enumD (.lst xs)=some (enumL xs):=nr rfl
@[simp] theorem sFor_eq {gg:D->Ga->Option Ga}:sFor fl gg T Γ=.of (fl Γ) Γ λ ds=>sTurns gg T ds Γ:=nr rfl
@[simp] theorem cpR_eq:cpR fl g f Γ=(fl Γ).bind λ ds=>if ds.length < 16000000 then compR g f Γ ds else .no:=nr rfl
theorem rng1_nat {k:Nat} (h:(k:Int) < 2 ^ 62):rng1 [.int (k:Int)]=some ((List.range k).map λ (j:Nat)=>D.int (j:Int)):=by
  simp only [rng1]
  rw [if_pos ⟨by omega,h⟩,Int.toNat_natCast]
  congr 2
  funext j
  rw [Int.zero_add]
theorem allS_eq {bs:List Bool}:allS (false,bs.map D.bl)=some (.bl (bs.all id)):=by
  show (asBs (bs.map D.bl)).bind _=_
  have:=asBs_map id bs
  rw [show (bs.map D.bl)=(bs.map λ x=>D.bl (id x)) from rfl,this]
  simp
theorem atI_zero {α:Type} (x:α) (xs:List α):atI (x::xs) 0=some x:=atI_nat (j:=0) rfl
theorem atI_one {α:Type} (x y:α) (xs:List α):atI (x::y::xs) 1=some y:=atI_nat (j:=1) rfl
theorem atI_two {α:Type} (x y z:α) (xs:List α):atI (x::y::z::xs) 2=some z:=atI_nat (j:=2) rfl
end
end Wy


namespace Wy
open PySem PySem.Spec PyProof.Rows L2
theorem turns_st {α:Type} {g:D->Ga->Option Ga} {T:Ga->RS} (P:α->Ga->Prop) (F:α->D->α):∀ (ds:List D) (a:α) (Γ:Ga),(∀ a d Γ,d∈ds->P a Γ->∃ Γ1 Γ',g d Γ=some Γ1/\(T Γ1=.nx Γ'∨T Γ1=.ct Γ')/\P (F a d) Γ')->P a Γ->∃ Γ',sTurns g T ds Γ=.nx Γ'/\P (ds.foldl F a) Γ'
  | [],a,Γ,_,h=>⟨Γ,rfl,h⟩
  | d::ds,a,Γ,H,h=>by
    obtain ⟨Γ1,Γ2,h1,h2,h3⟩:=H a d Γ List.mem_cons_self h
    obtain ⟨Γ',e,q⟩:=turns_st P F ds (F a d) Γ2 (λ a x Γ hx=>H a x Γ (List.mem_cons_of_mem _ hx)) h3
    refine ⟨Γ',?_,q⟩
    unfold sTurns
    rw [h1]
    rcases h2 with h2 | h2 <;> (dsimp only; rw [h2]; exact e)
theorem all_cp {it:Ga->R (List D)} {f:Ga->R D} {Γ:Ga} {ds:List D} {p:D->Bool} (h1:it Γ=.ok ds) (h2:ds.length < 16000000) (h3:∀ d∈ds,f (.val d::.un::Γ)=.ok (.bl (p d))) :
    eS allS (sO (cpR it cTrue f)) Γ=.ok (.bl (ds.all p)):=by
  have e:=compR_map (f:=f) (Γ:=Γ) (h:=λ d=>D.bl (p d)) h3
  have e2:allS (false,ds.map λ d=>D.bl (p d))=some (.bl (ds.all p)):=by
    have:=allS_eq (bs:=ds.map p)
    rw [List.map_map] at this
    rw [show (D.bl ∘ p)=λ d=>D.bl (p d) from rfl] at this
    rw [this]
    simp [Function.comp_def]
  simp [h1,h2,e,e2]
theorem turns_ix {α:Type} {g:D->Ga->Option Ga} {T:Ga->RS} (P:Nat->α->Ga->Prop) (F:α->D->α):∀ (ds:List D) (j:Nat) (a:α) (Γ:Ga),(∀ i a d Γ,ds[i]?=some d->P (j + i) a Γ->∃ Γ1 Γ',g d Γ=some Γ1/\(T Γ1=.nx Γ'∨T Γ1=.ct Γ')/\P (j + i + 1) (F a d) Γ')->P j a Γ->∃ Γ',sTurns g T ds Γ=.nx Γ'/\P (j + ds.length) (ds.foldl F a) Γ'
  | [],j,a,Γ,_,h=>⟨Γ,rfl,h⟩
  | d::ds,j,a,Γ,H,h=>by
    obtain ⟨Γ1,Γ2,h1,h2,h3⟩:=H 0 a d Γ rfl h
    obtain ⟨Γ',e,q⟩:=turns_ix P F ds (j + 1) (F a d) Γ2 (λ i a x Γ hx h=>by
      have:=H (i + 1) a x Γ (by simpa using hx) (by rw [show j + (i + 1)=j + 1 + i by omega]; exact h)
      rw [show j + (i + 1)=j + 1 + i by omega] at this
      exact this) h3
    refine ⟨Γ',?_,by rw [List.length_cons,show j + (ds.length + 1)=j + 1 + ds.length by omega]; exact q⟩
    unfold sTurns
    rw [h1]
    rcases h2 with h2 | h2 <;> (dsimp only; rw [h2]; exact e)
theorem foldl_app {α β:Type} (h:α->β):∀ (ds:List α) (a:List β),ds.foldl (λ acc d=>acc++[h d]) a=a++ds.map h
  | [],a=>by simp
  | d::ds,a=>by rw [List.foldl_cons,foldl_app h ds]; simp
end Wy
namespace Wl
open PySem PySem.Spec PyProof.Rows L2 Wy
abbrev Wd:=List Str×List (List Nat)
def dNames (ns:List Str):D:=.tup (ns.map .str)
def dRow (r:List Nat):D:=.tup (r.map λ (n:Nat)=>D.int (n:Int))
def dWays (w:List (List Nat)):D:=.tup (w.map dRow)
def dWd (w:Wd):D:=.tup [dNames w.1,dWays w.2]
def dYd (y:List Wd):D:=.tup (y.map dWd)
def dLs (ns:List Int):D:=.lst (ns.map D.int)
def cellI (ns:List Int) (k:Nat):Int:=ns.getD k 0
def mixI (c p m:Int):Int:=c * 48271 % p % m
theorem mix_lt (c p m:Int) (h:0 < m):0<=mixI c p m/\mixI c p m < m:=⟨Int.emod_nonneg _ (by omega),Int.emod_lt_of_pos _ h⟩
def yCount (ns:List Int) (k:Nat):Nat:=(1 + cellI ns k % 5).toNat
def yNames (ns:List Int) (k w:Nat):List Str:=(([(0,"a"),(1,"b"),(2,"zz")]:List (Nat×Str)).filter λ p=>decide (mixI (cellI ns (k + 1) + 7 * (w:Int) + (p.1:Int)) 9929 2=0)).map (·.2)
def yRow (ns:List Int) (k:Nat) (own:Int) (w kind:Nat):List Nat:=(List.range (yCount ns k)).filter λ one=>decide (mixI (cellI ns (k + 2 + kind) + 31 * (w:Int) + 5 * (one:Int)) 9923 3=0)||(decide (own=1)&&decide (one=w))
def lawWd (ns:List Int) (k:Nat) (own:Int) (w:Nat):Wd:=(yNames ns k w,(List.range 3).map (yRow ns k own w))
def lawYd (ns:List Int) (k:Nat) (own:Int):List Wd:=(List.range (yCount ns k)).map (lawWd ns k own)
theorem yCount_le (ns:List Int) (k:Nat):1<=yCount ns k/\yCount ns k<=5:=by
  have h1:=Int.emod_nonneg (cellI ns k) (show (5:Int)≠0 by decide)
  have h2:=Int.emod_lt_of_pos (cellI ns k) (show (0:Int) < 5 by decide)
  unfold yCount
  omega
section
variable {r:List Nat} {nms:List Str} {ws:List (List Nat)} {w:Wd} {y:List Wd}
@[simp] theorem ty_row:tyN (dRow r)="tuple":=nr rfl
@[simp] theorem ty_names:tyN (dNames nms)="tuple":=nr rfl
@[simp] theorem ty_ways:tyN (dWays ws)="tuple":=nr rfl
@[simp] theorem ty_wd:tyN (dWd w)="tuple":=nr rfl
@[simp] theorem ty_yd:tyN (dYd y)="tuple":=nr rfl
@[simp] theorem as_row:asT (dRow r)=some (r.map λ (n:Nat)=>D.int (n:Int)):=nr rfl
@[simp] theorem wd_0:ixD (dWd w) (.int 0)=some (dNames w.1):=by rw [show dWd w=.tup [dNames w.1,dWays w.2] from rfl,ixD_tup,atI_zero]
@[simp] theorem wd_1:ixD (dWd w) (.int 1)=some (dWays w.2):=by rw [show dWd w=.tup [dNames w.1,dWays w.2] from rfl,ixD_tup,atI_one]
theorem yd_at {k:Nat} (h:y[k]?=some w):ixD (dYd y) (.int (k:Int))=some (dWd w):=by
  rw [show dYd y=.tup (y.map dWd) from rfl,ixD_tup]
  exact atI_nat (by simp [h])
@[simp] theorem gT_t:gTuple "tuple"=true:=nr rfl
end
@[simp] theorem ty_int {x:Int}:tyN (.int x)="int":=nr rfl
end Wl


namespace Wy
open PySem PySem.Spec PyProof.Rows L2
structure Chg (F ch:List Addr) (h h':Heap):Prop where
  keep:∀ b o,h.get? b=some o->b∉F->b∉ch->h'.get? b=some o
  slot:∀ b o,h.get? b=some o->b∈F->b∉ch->∃ sl,h'.get? b=some { o with slots:=sl }
  there:∀ b o,h.get? b=some o->b∉ch->∃ o',h'.get? b=some o'
theorem Chg.trans {F ch:List Addr} {h h1 h2:Heap} (a:Chg F ch h h1) (b:Chg F ch h1 h2):Chg F ch h h2 where
  keep:=λ c o e h1 h2=>b.keep c o (a.keep c o e h1 h2) h1 h2
  slot:=λ c o e h1 h2=>by
    obtain ⟨sl,e1⟩:=a.slot c o e h1 h2
    obtain ⟨sl',e2⟩:=b.slot c _ e1 h1 h2
    exact ⟨sl',e2⟩
  there:=λ c o e h2=>by
    obtain ⟨o',e1⟩:=a.there c o e h2
    exact b.there c o' e1 h2
theorem Chg.of_slots {F ch:List Addr} {h h':Heap} (x:Heap.SlotsOnly F h h'):Chg F ch h h' :=
  ⟨λ b o e hb _=>(x.2.1 b hb).trans e,λ b o e _ _=>x.2.2 b o e,λ b o e _=>let ⟨_,q⟩:=x.2.2 b o e; ⟨_,q⟩⟩
theorem Chg.push {F ch:List Addr} {h:Heap} (o:Obj):Chg F ch h (h.push o) :=
  ⟨λ b _ e _ _=>Heap.get?_push_of_some _ e,λ b o' e _ _=>⟨o'.slots,Heap.get?_push_of_some _ e⟩,λ b o' e _=>⟨o',Heap.get?_push_of_some _ e⟩⟩
theorem Chg.update {F ch:List Addr} {h:Heap} {a:Addr} {f:Obj->Obj} (ha:a∈ch):Chg F ch h (h.update a f):=by
  have ne:∀ b,b∉ch->a≠b:=λ b hb z=>hb (z ▸ ha)
  exact ⟨λ b o e _ hc=>(Heap.get?_update_other _ _ (ne b hc)).trans e,λ b o e _ hc=>⟨o.slots,(Heap.get?_update_other _ _ (ne b hc)).trans e⟩,λ b o e hc=>⟨o,(Heap.get?_update_other _ _ (ne b hc)).trans e⟩⟩
structure DefCx (X:Cx):Prop where
  stk:X.stack=X.env::X.outer
  frm:X.env.frame=some X.env.locals
  ex:X.ex=[]
structure Fp (X:Cx) (pins:List (Addr×Obj)) (H:Hp) (b:Addr):Prop where
  fr:H b=none
  loc:b≠X.env.locals
  fs:b∉X.fs
  new:X.s₀.heap.get? b=none
  cel:∀ x c,X.env.cells.lookup x=some c->c≠b
  pin:∀ p∈X.pn++pins,p.1≠b
section
variable {X:Cx} {pins:List (Addr×Obj)} {σ:L2.St} {H H':Hp} {s:Shared}
theorem inv_fp {b:Addr} (Dc:DefCx X) (I:Inv X pins σ H s) (hb:s.heap.get? b=none) (hn:H' b=none):Fp X pins H' b:=by
  refine ⟨hn,λ z=>?_,λ z=>?_,?_,λ x c e z=>?_,λ p hp z=>?_⟩
  · obtain ⟨m,⟨o,_,_,ho,_⟩,_⟩:=I.loc
    rw [<- z,hb] at ho; cases ho
  · obtain ⟨_,o,ho,_⟩:=I.funs.mem z
    rw [hb] at ho; cases ho
  · cases q:X.s₀.heap.get? b with
    | none=>rfl
    | some o =>
      obtain ⟨o',e⟩:=I.base.there b o q (by rw [Dc.ex]; simp)
      rw [hb] at e; cases e
  · obtain ⟨v,o,ho,_⟩:=I.cell x c e
    rw [z,hb] at ho; cases ho
  · have:=(I.pin p hp).1
    rw [z,hb] at this; cases this
theorem chg_inv {ch:List Addr} {h':Heap} {t':Nat} (I:Inv X pins σ H s) (c:Chg (frs X.stack) ch s.heap h') (hch:∀ b∈ch,Fp X pins H b):Inv X pins σ H { s with heap:=h',toks:=t' }:=by
  have nt:∀ b o,H b=some o->b∉frs X.stack/\b∉ch:=λ b o e=>⟨λ z=>(by rw [I.stkFree b z] at e; cases e),λ z=>(by rw [(hch b z).fr] at e; cases e)⟩
  have nold:∀ b o,X.s₀.heap.get? b=some o->b∉ch:=λ b o e z=>by rw [(hch b z).new] at e; cases e
  have nfr:∀ b,b≠X.env.locals->b∉X.fs->b∉frs X.stack:=λ b h1 h2 z=>(List.mem_cons.mp (I.stkSub b z)).elim h1 h2
  have noL:∀ b o,X.s₀.heap.get? b=some o->b≠X.env.locals:=λ b o e=>Nat.ne_of_lt (Nat.lt_of_lt_of_le (Heap.lt_size e) I.ok.above)
  have any:∀ b o,s.heap.get? b=some o->b∉ch->∃ sl,h'.get? b=some { o with slots:=sl }:=λ b o e hc=>by
    by_cases z:b∈frs X.stack
    · exact c.slot b o e z hc
    · exact ⟨o.slots,c.keep b o e z hc⟩
  have cellK:∀ x k,X.env.cells.lookup x=some k->∀ v,s.heap.IsCell k v->h'.IsCell k v:=λ x k e v ⟨o,ho,hd⟩=>by
    obtain ⟨sl,q⟩:=any k o ho λ z=>(hch k z).cel x k e rfl
    exact ⟨_,q,hd⟩
  refine ⟨I.ok,I.os,I.bare,⟨λ b o e n hb hx=>?_,λ b o e n hb hx=>?_,I.base.free,λ b o e hx=>?_,I.base.tups,I.base.frzs,I.base.tbls⟩,?_,λ x k e=>?_,I.free,I.freeC,λ p hp=>?_,λ b u e=>?_,I.len⟩
  · exact c.keep b o (I.base.keep b o e n hb hx) (nfr b (noL b o e) hb) (nold b o e)
  · obtain ⟨sl,e1⟩:=I.base.slot b o e n hb hx
    obtain ⟨sl',e2⟩:=any b _ e1 (nold b o e)
    exact ⟨sl',e2⟩
  · obtain ⟨o',e1⟩:=I.base.there b o e hx
    exact c.there b o' e1 (nold b o e)
  · obtain ⟨m,⟨o,es,ep,ho,r⟩,hl⟩:=I.loc
    obtain ⟨sl,q⟩:=any _ o ho λ z=>(hch _ z).loc rfl
    refine ⟨m,⟨_,es,ep,q,r⟩,λ i x v e1 e2 e3=>?_⟩
    obtain ⟨u,rv,l⟩:=hl i x v e1 e2 e3
    refine ⟨u,rv,?_⟩
    rcases l with l | ⟨k,d,e,z⟩
    · exact .inl l
    · exact .inr ⟨k,d,e,cellK x d e _ z⟩
  · obtain ⟨v,z⟩:=I.cell x k e
    exact ⟨v,cellK x k e v z⟩
  · obtain ⟨e,n,ne,nf,d⟩:=I.pin p hp
    exact ⟨c.keep p.1 p.2 e (nfr p.1 ne nf) λ z=>(hch p.1 z).pin p hp rfl,n,ne,nf,d⟩
  · refine (I.hok b u e).stay (λ d v hc q=>?_) (λ _ q=>q) λ _ _ q=>q
    rcases hc with z | z
    · subst z; exact c.keep d v q (nt d u e).1 (nt d u e).2
    · exact c.keep d v q (nt d _ z).1 (nt d _ z).2
theorem inv_unpin (I:Inv X pins σ H s):Inv X [] σ H s:=⟨I.ok,I.os,I.bare,I.base,I.loc,I.cell,I.free,I.freeC,λ p hp=>I.pin p (by rw [List.append_nil] at hp; exact List.mem_append_left _ hp),I.hok,I.len⟩
theorem fp_unpin {b:Addr} (f:Fp X pins H b):Fp X [] H b:=⟨f.fr,f.loc,f.fs,f.new,f.cel,λ p hp=>f.pin p (by rw [List.append_nil] at hp; exact List.mem_append_left _ hp)⟩
end
structure XAt (ok:Addr->Prop) (L:Option Addr) (h:Heap) (e:Addr) (cls:Value):Prop where
  me:ok e
  obj:∃ oe vs,h.get? e=some oe/\oe.cls=cls/\oe.data=.fields vs/\(vs[1]?=some .none∨∃ T oT ts,vs[1]?=some (.ref T)/\ok T/\T≠e/\h.get? T=some oT/\oT.data=.fields ts/\(ts[3]?=some .none∨∃ l,L=some l/\ts[3]?=some (rawInt l)))
structure XOn (ok:Addr->Prop) (n:Value) (h:Heap) (e:Addr) (cls:Value):Prop where
  me:ok e
  obj:∃ oe vs T oT ts,h.get? e=some oe/\oe.cls=cls/\oe.data=.fields vs/\vs[1]?=some (.ref T)/\ok T/\T≠e/\h.get? T=some oT/\oT.data=.fields ts/\ts[3]?=some n
theorem XOn.at {ok ok':Addr->Prop} {L:Option Addr} {h:Heap} {e:Addr} {cls:Value} {n:Value} (x:XOn ok n h e cls) (hok:∀ b,ok b->ok' b) (hn:n=.none∨∃ l,L=some l/\n=rawInt l):XAt ok' L h e cls:=by
  obtain ⟨oe,vs,T,oT,ts,h1,h2,h3,h4,h5,h6,h7,h8,h9⟩:=x.obj
  refine ⟨hok _ x.me,oe,vs,h1,h2,h3,.inr ⟨T,oT,ts,h4,hok _ h5,h6,h7,h8,?_⟩⟩
  rcases hn with rfl | ⟨l,e1,rfl⟩
  · exact .inl h9
  · exact .inr ⟨l,e1,h9⟩
section
variable {X:Cx} {pins:List (Addr×Obj)} {σ:L2.St} {H:Hp} {s:Shared} {E:Value->Shared->Prop} {M:Model} {e:Addr} {cls:Value}
theorem note_new {oe:Obj} {vs:Array Value} {head:Value} {b:Bool} {h0:Heap} {Q:Unit->Shared->Prop} (Dc:DefCx X) (I:Inv X pins σ H s) (fe:Fp X pins H e) (he:s.heap.get? e=some oe) (hc:oe.cls=cls) (hd:oe.data=.fields vs) (hz:1 < vs.size)
    (go:∀ s',Inv X pins σ H s'->XOn (Fp X pins H) (rawInt X.env.locals) s'.heap e cls->Q () s') :
    wpAny M X.A (do let a <- frameOf X.env; let pl <- entryPlaceOf X.env.locals b; let r <- EntryCells.newEntry head a .none (rawInt X.env.locals) .none pl; setField (.ref e) 1 r) Q E s:=by
  have hst:=I.stack
  have hfr:=I.ok.frames
  rw [Dc.stk] at hst hfr
  have ne:e∉(X.env::X.outer).filterMap (·.frame):=λ z=>by
    have z':e∈frs X.stack:=by rw [Dc.stk]; exact z
    rcases List.mem_cons.mp (I.stkSub e z') with q | q
    · exact fe.loc q
    · exact fe.fs q
  refine wpAny_bind (wpAny_frameOf_fun hfr hst Dc.frm λ g1 k1=>?_)
  refine wpAny_bind (wpAny_entryPlaceOf λ pl hpl=>?_)
  unfold EntryCells.newEntry newFields
  refine wpAny_bind (wpAny_newObj_type ?_ (hpl.sizeOk5 _ _ _ _ _))
  generalize hT:({ cls:=.type "traceback",dict:=none,data:=.fields ([head,.ref X.env.locals,.none,rawInt X.env.locals,.none]++(if pl.isEmpty then List.replicate 6 Value.none else pl)).toArray }:Obj)=oT
  have e1:g1.get? e=some oe:=(k1.2.1 e ne).trans he
  have e2:(g1.push oT).get? e=some oe:=Heap.get?_push_of_some _ e1
  refine wpAny_setField e2 hd hz ?_
  have nT:g1.objs.size≠e:=Nat.ne_of_gt (Heap.lt_size e1)
  have d3:=Obj.data_mapFields hd (·.setIfInBounds 1 (Value.ref g1.objs.size))
  have e3:=Heap.get?_update_self (Obj.mapFields (·.setIfInBounds 1 (Value.ref g1.objs.size))) e2 (Obj.isFreed_of_fields d3)
  have hnf:oT.isFreed=false:=by rw [<- hT]; rfl
  have t3:=(Heap.get?_update_other (g1.push oT) (Obj.mapFields (·.setIfInBounds 1 (Value.ref g1.objs.size))) (Ne.symm nT)).trans (Heap.get?_push_size g1 hnf)
  have C1:Chg (frs X.stack) [e] s.heap ((g1.push oT).update e (Obj.mapFields (·.setIfInBounds 1 (Value.ref g1.objs.size)))):=by
    rw [Dc.stk]
    exact ((Chg.of_slots k1).trans (Chg.push oT)).trans (Chg.update (List.mem_singleton.mpr rfl))
  have I1:=chg_inv (t':=s.toks) I C1 λ b hb=>by rw [List.mem_singleton.mp hb]; exact fe
  have hsz:s.heap.objs.size<=g1.objs.size:=by rw [k1.1]; exact Nat.le_refl _
  have fT:Fp X pins H g1.objs.size:=inv_fp Dc I (Heap.get?_none_of_le hsz) (I.hok.fresh hsz)
  refine go _ I1 ⟨fe,_,_,g1.objs.size,oT,_,e3,(Obj.cls_mapFields _ _).trans hc,d3,by simp [hz],fT,nT,t3,by rw [<- hT],?_⟩
  rcases hpl with rfl | ⟨_,_,_,_,_,_,_,rfl⟩ <;> rfl
theorem note_ok {Q:Unit->Shared->Prop} (Dc:DefCx X) (I:Inv X pins σ H s) (x:XAt (Fp X pins H) (some X.env.locals) s.heap e cls) (go:∀ s',Inv X pins σ H s'->XOn (Fp X pins H) (rawInt X.env.locals) s'.heap e cls->Q () s') :
    wpAny M X.A (noteFrame (.ref e) X.env) Q E s:=by
  obtain ⟨oe,vs,he,hc,hd,ht⟩:=x.obj
  unfold noteFrame
  simp only [Dc.frm]
  rcases ht with h1 | ⟨T,oT,ts,h1,fT,nT,gT,dT,h3⟩
  · refine wpAny_bind (wpAny_field he hd h1 ?_)
    rw [if_neg (by decide)]
    exact note_new (h0:=s.heap) Dc I x.me he hc hd (Array.getElem?_eq_some_iff.mp h1).1 go
  · refine wpAny_bind (wpAny_field he hd h1 ?_)
    rw [if_pos (show (Value.ref T != Value.none)=true by simp)]
    rcases h3 with h3 | ⟨l,hl,h3⟩
    · refine wpAny_bind (wpAny_field gT dT h3 ?_)
      rw [if_neg (show ¬ ((Value.none == rawInt X.env.locals)=true) by simp [rawInt])]
      refine wpAny_bind (wpAny_setField gT dT (Array.getElem?_eq_some_iff.mp h3).1 ?_)
      have I1:=chg_inv (t':=s.toks) I (Chg.update (ch:=[T]) (F:=frs X.stack) (h:=s.heap) (f:=Obj.mapFields (·.setIfInBounds 3 Value.none)) (List.mem_singleton.mpr rfl)) λ b hb=>by rw [List.mem_singleton.mp hb]; exact fT
      exact note_new (h0:=s.heap) Dc I1 x.me ((Heap.get?_update_other _ _ nT).trans he) hc hd (Array.getElem?_eq_some_iff.mp h1).1 go
    · cases hl
      refine wpAny_bind (wpAny_field gT dT h3 ?_)
      rw [if_pos (beq_self_eq_true _)]
      exact wpAny_pure (go _ I ⟨x.me,oe,vs,T,oT,ts,he,hc,hd,h1,fT,nT,gT,dT,h3⟩)
theorem flight_ok {n m:Value} {o:Option Addr} {Q:Unit->Shared->Prop} (I:Inv X pins σ H s) (x:XOn (Fp X pins H) n s.heap e cls) (hm:(o.elim Value.none λ f=>rawInt f)=m) (go:∀ s',Inv X pins σ H s'->XOn (Fp X pins H) m s'.heap e cls->Q () s') :
    wpAny M X.A (setFlight (.ref e) o) Q E s:=by
  obtain ⟨oe,vs,T,oT,ts,he,hc,hd,h1,fT,nT,gT,dT,h3⟩:=x.obj
  unfold setFlight
  refine wpAny_bind (wpAny_field he hd h1 ?_)
  rw [if_pos (show (Value.ref T != Value.none)=true by simp)]
  have hz:=(Array.getElem?_eq_some_iff.mp h3).1
  refine wpAny_setField gT dT hz ?_
  rw [hm]
  have d3:=Obj.data_mapFields dT (·.setIfInBounds 3 m)
  refine go _ (chg_inv (t':=s.toks) I (Chg.update (ch:=[T]) (F:=frs X.stack) (h:=s.heap) (List.mem_singleton.mpr rfl)) λ b hb=>by rw [List.mem_singleton.mp hb]; exact fT) ⟨x.me,oe,vs,T,_,_,(Heap.get?_update_other _ _ nT).trans he,hc,hd,h1,fT,nT,Heap.get?_update_self _ gT (Obj.isFreed_of_fields d3),d3,by simp [hz]⟩
end
def XeOk (X:Cx) (W:XP):Value->Shared->Prop:=λ e s=>∃ (ea:Addr) (σ:L2.St) (H G:Hp) (c:Str) (C:Addr),e=.ref ea/\Inv X [] σ H s/\PySem.W.nsIn X.K mainGlobals c=some (some (.ref C))/\W c σ H G/\XAt (Fp X [] H) (some X.env.locals) s.heap ea (.ref C)
abbrev _root_.L2.Cx.xw (X:Cx) (W:XP):Cx:=X.wish (XeOk X W)
def CX1 (P:Program) (w:World):CXT:=λ outer H s E e s'=>∃ (ea C:Addr) (H':Hp),e=.ref ea/\s'.os=s.os/\AllBare s'.gens/\Un (frs outer) [] H H' s.heap s'.heap/\HOk P w H' s'.heap/\E (.ref C) none H' /\
  XAt (λ b=>s.heap.get? b=none/\H' b=none) none s'.heap ea (.ref C)
theorem cx1_E0 {P:Program} {w:World} {H:Hp} {s:Shared} {e:Value} {s':Shared} (h:CX1 P w [] H s E0 e s'):False:=by
  obtain ⟨_,_,_,_,_,_,_,_,h,_⟩:=h
  exact h
section
variable {X:Cx} {W:XP}
theorem po1 (Dc:DefCx X):PassesOwn (model X.prog X.w) X.A X.env (XeOk X W):=by
  rintro e s ⟨ea,σ,H,G,c,C,rfl,I,hc,hw,x⟩
  show wpAny _ _ (noteFrame (.ref ea) X.env) _ _ s
  refine note_ok Dc I x λ s1 I1 x1=>?_
  obtain ⟨oe,vs,T,oT,ts,he,_,hd,h1,_⟩:=id x1.obj
  refine wpAny_bind (wpAny_field he hd h1 ?_)
  rw [if_neg (show ¬ ((Value.ref T == Value.none)=true) by exact Bool.false_ne_true),Dc.frm]
  refine flight_ok I1 x1 rfl λ s2 I2 x2=>?_
  exact ⟨ea,σ,H,G,c,C,rfl,I2,hc,hw,x2.at (λ _ h=>h) (.inr ⟨_,rfl,rfl⟩)⟩
theorem pw1 (Dc:DefCx X):PassW (CX1 X.prog X.w) (X.xw W) W:=by
  rintro pins σ H s e s' I ⟨ea,C,H',rfl,os,bare,un,hok,⟨c,G',⟨C',e1,hc⟩,hw⟩,x⟩
  cases e1
  have I:=I.unwish
  have I2:=I.call' (ch:=[]) os un hok bare (λ b z=>absurd z (by simp))
  have fp:∀ b,(s.heap.get? b=none/\H' b=none)->Fp X [] H' b:=λ b ⟨h1,h2⟩=>fp_unpin (inv_fp Dc I h1 h2)
  obtain ⟨oe,vs,he,h2,hd,ht⟩:=x.obj
  refine ⟨ea,σ,H',G',c,C,rfl,inv_unpin I2,hc,hw,fp _ x.me,oe,vs,he,h2,hd,?_⟩
  rcases ht with h1 | ⟨T,oT,ts,h1,fT,nT,gT,dT,h3⟩
  · exact .inl h1
  · refine .inr ⟨T,oT,ts,h1,fp _ fT,nT,gT,dT,?_⟩
    rcases h3 with h3 | ⟨l,hl,_⟩
    · exact .inl h3
    · cases hl
theorem pwB {P:Program} {w:World}:PassW (CX1 P w) X XP0:=by
  rintro pins σ H s e s' I ⟨ea,C,H',rfl,os,bare,un,hok,⟨c,G',_,hw⟩,x⟩
  exact hw.elim
theorem pss_wish {st:List Stmt} {t:TS} (h:PSs (X.xw W) st t) (hx:∀ e s,XeOk X W e s->X.xe e s):PSs X st t:=λ pins s σ H D I hw =>
  wpAny_mono (h pins s σ H D (I.wish _) hw) (λ _ _ q=>q.unwish) λ e s z=>hx e s z
end
section
variable {P:Program} {w:World} {K:PySem.W.Frag} {mg:Str->Option Value} {base:Heap}
theorem fn_R1 {x qual:Str} {st:Stmt} {f:Addr} {fd:FuncData} {N ps:List Str} {k:Nat} {S:Ga->RS} (Fn:Fun K x qual st f fd) (Sc:FnScope N ps (defScope st))
    (B:∀ (cdv:Value) (A:Around) (outer:List Env) (s:Shared) (H:Hp) (W:XP) (E:XK),Room k (A.deeper (envOfC qual (defScope st) s.heap.objs.size f cdv)) ->
      ExDs ((cxOf (CX1 P w) P w K mg base N qual (defScope st) f cdv A outer s H E).xw W) W (defBody st) S) :
    FnOk P w K mg base (CX1 P w) (k + 1) f fd ps (spF K mg ps.length λ ds=>callR N S ds):=by
  obtain ⟨oc,od,kV,doc,pm,an,cdv,ct,osl,rfl,lk,hcd⟩:=Fn.ex
  refine fn_of lk hcd Sc (λ vs H Q E h=>?_) λ A outer s H vs Q E hr h=>?_
  · obtain ⟨G,ds,_,_,l,hl,_⟩:=h
    exact l.length.symm.trans hl
  · obtain ⟨G,ds,g,tb,l,hl,q⟩:=h
    obtain ⟨t,p,hd⟩:=B cdv A outer s H (λ c _ H' G'=>Ext H G H' G'/\∀ cls,ClsIs K c cls->E cls none H') E hr
    refine ⟨t,pss_wish p ?_,hd H G _ _ H G (rep_begin g tb l) _ ?_⟩
    · rintro e s' ⟨ea,σ,H',G',c,C,rfl,I,hc,⟨_,hw⟩,x⟩
      have Dc:DefCx (cxOf (CX1 P w) P w K mg base N qual (defScope st) f cdv A outer s H E):=⟨rfl,rfl,rfl⟩
      show wpAny _ _ (leaving _ (.ref ea)) _ _ s'
      unfold leaving
      refine wpAny_bind (note_ok (X:=cxOf (CX1 P w) P w K mg base N qual (defScope st) f cdv A outer s H E) Dc I x λ s1 I1 x1=>?_)
      refine flight_ok (X:=cxOf (CX1 P w) P w K mg base N qual (defScope st) f cdv A outer s H E) (o:=none) I1 x1 rfl λ s2 I2 x2=>?_
      have young:∀ b,Fp (cxOf (CX1 P w) P w K mg base N qual (defScope st) f cdv A outer s H E) [] H' b->s.heap.get? b=none/\H' b=none:=λ b hb=>⟨hb.new,hb.fr⟩
      exact ⟨ea,C,H',rfl,I2.os,I2.bare,I2.base,I2.hok,hw _ ⟨C,rfl,hc⟩,x2.at young (.inl rfl)⟩
    · unfold callR at q
      dsimp only at q
      cases hS:S (begin_ N ds) with
      | rt d=>rw [hS] at q; exact λ v H' G' e dv=>q v H' G' e dv
      | nx Γ=>rw [hS] at q; exact λ σ H' G' R=>q _ H' G' R.ex den_non
      | bk Γ=>rw [hS] at q; exact q.elim
      | ct Γ=>rw [hS] at q; exact q.elim
      | ex c Γ=>rw [hS] at q; exact λ σ H' G' R=>⟨R.ex,λ cls hcls=>q cls none H' G' hcls R.ex⟩
      | no=>rw [hS] at q; exact q.elim
end
end Wy


namespace Wy
open PySem PySem.Spec PyProof.Rows L2
section
variable {K:PySem.W.Frag} {c y nm q:Str} {C Y N:Addr} {bs bm sub:List Value} {hd:Bool} {sn:List Str} {ab:Bool} {col:Option Bool} {dd:Option Addr} {k0 k1 k2 k3 k5:Option Value}
end
section
variable {X:Cx} {W:XP} {c:Str} {C:Addr} {bm:List Value} {e:Expr} {es:List Expr} {fl:Ga->R (List D)} {np cpos pos:Pos}
end
end Wy


namespace Wy
open PySem PySem.Spec PyProof.Rows L2
section
variable {X:Cx} {pins:List (Addr×Obj)} {σ:L2.St} {H:Hp} {s:Shared} {E:Value->Shared->Prop} {M:Model}
end
section
variable {X:Cx} {pins pn:List (Addr×Obj)} {σ:L2.St} {H:Hp} {s:Shared}
end
section
variable {X:Cx} {W:XP} {body:List Stmt} {h:ExceptHandler} {pos:Pos} {T:Ga->RS} {U:Str->Ga->RS} {tb:Str->Option Bool}
end
end Wy


namespace Wy
open PySem PySem.Spec PyProof.Rows L2
section
variable {X:Cx} {pins pn:List (Addr×Obj)} {σ:L2.St} {H:Hp} {s:Shared} {A:Around}
end
section
variable {X:Cx} {W:XP} {x:Str} {Ch:Addr} {bmh:List Value} {np hpos:Pos} {b₀:Stmt} {suite:List Stmt} {U:Ga->RS} {tb:Str->Option Bool}
end
section
variable {X:Cx} {W:XP} {pos p p2 p3:Pos} {n nT:Str}
end
end Wy


namespace Wy
open PySem PySem.Spec PyProof.Rows L2
mutual
def eqDD:D->D->Bool
  | .non,.non=>true
  | .bl a,.bl b=>a == b
  | .bl a,.int b=>(if a then 1 else 0) == b
  | .int a,.bl b=>a == (if b then 1 else 0)
  | .int a,.int b=>a == b
  | .str a,.str b=>a == b
  | .tup xs,.tup ys=>eqDL xs ys
  | .lst xs,.lst ys=>eqDL xs ys
  | _,_=>false
def eqDL:List D->List D->Bool
  | [],[]=>true
  | x::xs,y::ys=>eqDD x y&&eqDL xs ys
  | _,_=>false
end
mutual
def depD:D->Nat
  | .tup xs=>depDL xs + 1
  | .lst xs=>depDL xs + 1
  | _=>0
def depDL:List D->Nat
  | []=>0
  | x::xs=>max (depD x) (depDL xs)
end
theorem eqDL_at:∀ (xs ys:List D),eqDL xs ys=((List.range (min xs.length ys.length)).all (λ j=>eqDD (xs.getD j .non) (ys.getD j .non))&&xs.length == ys.length)
  | [],[]=>by unfold eqDL; rfl
  | [],y::ys=>by unfold eqDL; simp
  | x::xs,[]=>by unfold eqDL; simp
  | x::xs,y::ys=>by
    unfold eqDL
    rw [eqDL_at xs ys,List.length_cons,List.length_cons,show min (xs.length + 1) (ys.length + 1)=min xs.length ys.length + 1 by omega,List.range_succ_eq_map,List.all_cons,List.all_map]
    simp only [List.getD_cons_zero,Function.comp_def,List.getD_cons_succ]
    rw [Bool.and_assoc]
    congr 1
    congr 1
    rw [Bool.eq_iff_iff]
    simp
theorem dep_get:∀ {xs:List D} {j:Nat} {d:D},xs[j]?=some d->depD d<=depDL xs
  | x::xs,0,d,h=>by
    cases h
    unfold depDL
    exact Nat.le_max_left _ _
  | x::xs,j + 1,d,h=>by
    have:=dep_get (xs:=xs) (j:=j) (by simpa using h)
    unfold depDL
    exact Nat.le_trans this (Nat.le_max_right _ _)
  | [],_,_,h=>by simp at h
section
variable {X:Cx} {pins:List (Addr×Obj)} {σ:L2.St} {H G:Hp} {s:Shared}
mutual
theorem den_inj (I:Inv X pins σ H s) (g:Same G H):(d1 d2:D)->(v:V)->Den X.K G d1 v->Den X.K G d2 v->d1=d2
  | .non,d2,v,h1,h2=>by
    cases den_nonE h1
    cases d2 with
    | non=>rfl
    | bl b=>cases den_blE h2
    | int b=>cases den_intE h2
    | str b=>cases den_strE h2
    | tup b=>obtain ⟨a,vs,e,_⟩:=den_tup.mp h2; cases e
    | lst b=>obtain ⟨a,vs,e,_⟩:=den_lst.mp h2; cases e
  | .bl x,d2,v,h1,h2=>by
    cases den_blE h1
    cases d2 with
    | non=>cases den_nonE h2
    | bl b=>cases den_blE h2; rfl
    | int b=>cases den_intE h2
    | str b=>cases den_strE h2
    | tup b=>obtain ⟨a,vs,e,_⟩:=den_tup.mp h2; cases e
    | lst b=>obtain ⟨a,vs,e,_⟩:=den_lst.mp h2; cases e
  | .int x,d2,v,h1,h2=>by
    cases den_intE h1
    cases d2 with
    | non=>cases den_nonE h2
    | bl b=>cases den_blE h2
    | int b=>cases den_intE h2; rfl
    | str b=>cases den_strE h2
    | tup b=>obtain ⟨a,vs,e,_⟩:=den_tup.mp h2; cases e
    | lst b=>obtain ⟨a,vs,e,_⟩:=den_lst.mp h2; cases e
  | .str x,d2,v,h1,h2=>by
    cases den_strE h1
    cases d2 with
    | non=>cases den_nonE h2
    | bl b=>cases den_blE h2
    | int b=>cases den_intE h2
    | str b=>cases den_strE h2; rfl
    | tup b=>obtain ⟨a,vs,e,_⟩:=den_tup.mp h2; cases e
    | lst b=>obtain ⟨a,vs,e,_⟩:=den_lst.mp h2; cases e
  | .tup xs,d2,v,h1,h2=>by
    obtain ⟨a,vs,rfl,s1,l1⟩:=den_tup.mp h1
    cases d2 with
    | non=>cases den_nonE h2
    | bl b=>cases den_blE h2
    | int b=>cases den_intE h2
    | str b=>cases den_strE h2
    | tup ys =>
      obtain ⟨a',ws,e,s2,l2⟩:=den_tup.mp h2
      cases e
      have:=I.tuple_inj (Same.seqT g s1) (Same.seqT g s2)
      subst this
      rw [denL_inj I g xs ys vs l1 l2]
    | lst ys =>
      obtain ⟨a',ws,e,s2,l2⟩:=den_lst.mp h2
      cases e
      obtain ⟨i1,_,p1,_⟩:=I.tuple (Same.seqT g s1)
      obtain ⟨i2,_,p2,_⟩:=I.list (g.seq s2)
      exact absurd rfl (SeqAt.ne_of_list_tuple (s:=s) p2.isList (show s.heap.IsTuple a i1.toArray from p1))
  | .lst xs,d2,v,h1,h2=>by
    obtain ⟨a,vs,rfl,s1,l1⟩:=den_lst.mp h1
    cases d2 with
    | non=>cases den_nonE h2
    | bl b=>cases den_blE h2
    | int b=>cases den_intE h2
    | str b=>cases den_strE h2
    | lst ys =>
      obtain ⟨a',ws,e,s2,l2⟩:=den_lst.mp h2
      cases e
      have:=I.list_inj (g.seq s1) (g.seq s2)
      subst this
      rw [denL_inj I g xs ys vs l1 l2]
    | tup ys =>
      obtain ⟨a',ws,e,s2,l2⟩:=den_tup.mp h2
      cases e
      obtain ⟨i1,_,p1,_⟩:=I.tuple (Same.seqT g s2)
      obtain ⟨i2,_,p2,_⟩:=I.list (g.seq s1)
      exact absurd rfl (SeqAt.ne_of_list_tuple (s:=s) p2.isList (show s.heap.IsTuple a i1.toArray from p1))
theorem denL_inj (I:Inv X pins σ H s) (g:Same G H):(ds es:List D)->(vs:List V)->DenL X.K G ds vs->DenL X.K G es vs->ds=es
  | [],es,vs,h1,h2=>by
    cases denL_nil.mp h1
    cases es with
    | nil=>rfl
    | cons e es=>obtain ⟨_,_,e,_⟩:=denL_cons.mp h2; cases e
  | d::ds,es,vs,h1,h2=>by
    obtain ⟨v,r,rfl,q1,q2⟩:=denL_cons.mp h1
    cases es with
    | nil=>cases denL_nil.mp h2
    | cons e es =>
      obtain ⟨_,_,e',q3,q4⟩:=denL_cons.mp h2
      cases e'
      rw [den_inj I g d e v q1 q3,denL_inj I g ds es r q2 q4]
end
mutual
theorem eqDD_self:(d:D)->eqDD d d=true
  | .non=>by unfold eqDD; rfl
  | .bl b=>by unfold eqDD; simp
  | .int b=>by unfold eqDD; simp
  | .str b=>by unfold eqDD; simp
  | .tup xs=>by unfold eqDD; exact eqDL_self xs
  | .lst xs=>by unfold eqDD; exact eqDL_self xs
theorem eqDL_self:(ds:List D)->eqDL ds ds=true
  | []=>by unfold eqDL; rfl
  | d::ds=>by unfold eqDL; rw [eqDD_self d,eqDL_self ds]; rfl
end
theorem den_same (I:Inv X pins σ H s) (g:Same G H) (d1 d2:D) (v:V) (h1:Den X.K G d1 v) (h2:Den X.K G d2 v):eqDD d1 d2=true:=by
  rw [den_inj I g d1 d2 v h1 h2]
  exact eqDD_self d2
theorem vals_get {xs:List V} {us:List Value} (r:Vals xs us) {j:Nat} (h:j < us.length):∃ x,xs[j]?=some x/\RelV x us[j]:=by
  have hl:=r.length
  obtain ⟨u,hu,ru⟩:=r.get (List.getElem?_eq_getElem (show j < xs.length by omega))
  rw [List.getElem?_eq_getElem h] at hu
  cases hu
  exact ⟨_,List.getElem?_eq_getElem (by omega),ru⟩
theorem den_at {ds:List D} {vs:List V} {j:Nat} {x:V} (l:DenL X.K G ds vs) (h:vs[j]?=some x):ds[j]?=some (ds.getD j .non)/\Den X.K G (ds.getD j .non) x:=by
  have hj:j < ds.length:=by rw [l.length]; exact (List.getElem?_eq_some_iff.mp h).1
  have e:ds[j]?=some (ds.getD j .non):=by rw [List.getD_eq_getElem?_getD,List.getElem?_eq_getElem hj]; rfl
  obtain ⟨v,e1,e2⟩:=l.get e
  rw [h] at e1
  cases e1
  exact ⟨e,e2⟩
theorem eqAt_D (I:Inv X pins σ H s) (g:Same G H):∀ (n:Nat) (d1 d2:D) (v1 v2:V) (u1 u2:Value) (A:Around),depD d1<=n->A.units + n < cLine->Den X.K G d1 v1->Den X.K G d2 v2->RelV v1 u1->RelV v2 u2 ->
    SeqAt.EqAt A s u1 u2 (eqDD d1 d2)/\SeqAt.RcAt A s u1 u2 (eqDD d1 d2):=by
  intro n
  have seqs:∀ (n:Nat),(∀ (d1 d2:D) (v1 v2:V) (u1 u2:Value) (A:Around),depD d1<=n->A.units + n < cLine->Den X.K G d1 v1->Den X.K G d2 v2->RelV v1 u1->RelV v2 u2->SeqAt.EqAt A s u1 u2 (eqDD d1 d2)) ->
      ∀ (xs ys:List D) (vs ws:List V) (us ts:List Value) (A:Around),depDL xs<=n->A.units + (n + 1) < cLine->DenL X.K G xs vs->DenL X.K G ys ws->Vals vs us->Vals ws ts->∀ j (h1:j < us.toArray.size) (h2:j < ts.toArray.size),SeqAt.EqAt A.in1 s us.toArray[j] ts.toArray[j] (eqDD (xs.getD j .non) (ys.getD j .non)) :=
    λ n ih xs ys vs ws us ts A hn hA l1 l2 r1 r2 j h1 h2=>by
      have h1':j < us.length:=by simpa using h1
      have h2':j < ts.length:=by simpa using h2
      obtain ⟨x,e1,q1⟩:=vals_get r1 h1'
      obtain ⟨y,e2,q2⟩:=vals_get r2 h2'
      obtain ⟨e3,q3⟩:=den_at l1 e1
      obtain ⟨e4,q4⟩:=den_at l2 e2
      have:=ih _ _ _ _ _ _ A.in1 (Nat.le_trans (dep_get e3) hn) (by show A.units + 1 + n < cLine; omega) q3 q4 q1 q2
      simpa using this
  have main:∀ (n:Nat),(∀ m,m < n->∀ (d1 d2:D) (v1 v2:V) (u1 u2:Value) (A:Around),depD d1<=m->A.units + m < cLine->Den X.K G d1 v1->Den X.K G d2 v2->RelV v1 u1->RelV v2 u2->SeqAt.EqAt A s u1 u2 (eqDD d1 d2)) ->
      ∀ (d1 d2:D) (v1 v2:V) (u1 u2:Value) (A:Around),depD d1<=n->A.units + n < cLine->Den X.K G d1 v1->Den X.K G d2 v2->RelV v1 u1->RelV v2 u2->SeqAt.EqAt A s u1 u2 (eqDD d1 d2)/\SeqAt.RcAt A s u1 u2 (eqDD d1 d2):=by
    intro n ih d1 d2 v1 v2 u1 u2 A hn hA h1 h2 r1 r2
    have hu:A.units < cLine:=by omega
    cases d1 with
    | non =>
      cases den_nonE h1; obtain rfl:u1=Value.none:=r1
      cases d2 with
      | non=>cases den_nonE h2; obtain rfl:u2=Value.none:=r2; unfold eqDD; exact ⟨SeqAt.EqAt.same _,SeqAt.RcAt.none_none⟩
      | bl=>rename_i b; cases den_blE h2; obtain rfl:u2=Value.bool b:=r2; unfold eqDD; exact ⟨SeqAt.EqAt.none_bool  b,SeqAt.RcAt.none_bool  b⟩
      | int=>rename_i b; cases den_intE h2; obtain ⟨t2,rfl⟩:=r2; unfold eqDD; exact ⟨SeqAt.EqAt.none_int  b t2,SeqAt.RcAt.none_int  b t2⟩
      | str=>rename_i b; cases den_strE h2; obtain ⟨t2,rfl⟩:=r2; unfold eqDD; exact ⟨SeqAt.EqAt.none_str  b t2,SeqAt.RcAt.none_str  b t2⟩
      | tup=>obtain ⟨l,vs,rfl,sq,_⟩:=den_tup.mp h2; obtain rfl:u2=Value.ref l:=r2; obtain ⟨its,_,p,_⟩:=I.tuple (Same.seqT g sq); have p':s.heap.IsTuple l its.toArray:=p; unfold eqDD; exact ⟨SeqAt.EqAt.none_tuple  p' hu,SeqAt.RcAt.none_tuple  p' hu⟩
      | lst=>obtain ⟨l,vs,rfl,sq,_⟩:=den_lst.mp h2; obtain rfl:u2=Value.ref l:=r2; obtain ⟨its,_,p,_⟩:=I.list (g.seq sq); have p':s.heap.IsList l its.toArray:=p.isList; unfold eqDD; exact ⟨SeqAt.EqAt.none_list  p' hu,SeqAt.RcAt.none_list  p' hu⟩
    | bl =>
      rename_i a; cases den_blE h1; obtain rfl:u1=Value.bool a:=r1
      cases d2 with
      | non=>cases den_nonE h2; obtain rfl:u2=Value.none:=r2; unfold eqDD; exact ⟨SeqAt.EqAt.bool_none a ,SeqAt.RcAt.bool_none a ⟩
      | bl=>rename_i b; cases den_blE h2; obtain rfl:u2=Value.bool b:=r2; unfold eqDD; exact ⟨SeqAt.EqAt.bool_bool a b,SeqAt.RcAt.bool_bool a b⟩
      | int=>rename_i b; cases den_intE h2; obtain ⟨t2,rfl⟩:=r2; unfold eqDD; exact ⟨SeqAt.EqAt.bool_int a b t2,SeqAt.RcAt.bool_int a b t2⟩
      | str=>rename_i b; cases den_strE h2; obtain ⟨t2,rfl⟩:=r2; unfold eqDD; exact ⟨SeqAt.EqAt.bool_str a b t2,SeqAt.RcAt.bool_str a b t2⟩
      | tup=>obtain ⟨l,vs,rfl,sq,_⟩:=den_tup.mp h2; obtain rfl:u2=Value.ref l:=r2; obtain ⟨its,_,p,_⟩:=I.tuple (Same.seqT g sq); have p':s.heap.IsTuple l its.toArray:=p; unfold eqDD; exact ⟨SeqAt.EqAt.bool_tuple a p' hu,SeqAt.RcAt.bool_tuple a p' hu⟩
      | lst=>obtain ⟨l,vs,rfl,sq,_⟩:=den_lst.mp h2; obtain rfl:u2=Value.ref l:=r2; obtain ⟨its,_,p,_⟩:=I.list (g.seq sq); have p':s.heap.IsList l its.toArray:=p.isList; unfold eqDD; exact ⟨SeqAt.EqAt.bool_list a p' hu,SeqAt.RcAt.bool_list a p' hu⟩
    | int =>
      rename_i a; cases den_intE h1; obtain ⟨t1,rfl⟩:=r1
      cases d2 with
      | non=>cases den_nonE h2; obtain rfl:u2=Value.none:=r2; unfold eqDD; exact ⟨SeqAt.EqAt.int_none a t1 ,SeqAt.RcAt.int_none a t1 ⟩
      | bl=>rename_i b; cases den_blE h2; obtain rfl:u2=Value.bool b:=r2; unfold eqDD; exact ⟨SeqAt.EqAt.int_bool a t1 b,SeqAt.RcAt.int_bool a t1 b⟩
      | int=>rename_i b; cases den_intE h2; obtain ⟨t2,rfl⟩:=r2; unfold eqDD; exact ⟨SeqAt.EqAt.int_int a t1 b t2,SeqAt.RcAt.int_int a t1 b t2⟩
      | str=>rename_i b; cases den_strE h2; obtain ⟨t2,rfl⟩:=r2; unfold eqDD; exact ⟨SeqAt.EqAt.int_str a t1 b t2,SeqAt.RcAt.int_str a t1 b t2⟩
      | tup=>obtain ⟨l,vs,rfl,sq,_⟩:=den_tup.mp h2; obtain rfl:u2=Value.ref l:=r2; obtain ⟨its,_,p,_⟩:=I.tuple (Same.seqT g sq); have p':s.heap.IsTuple l its.toArray:=p; unfold eqDD; exact ⟨SeqAt.EqAt.int_tuple a t1 p' hu,SeqAt.RcAt.int_tuple a t1 p' hu⟩
      | lst=>obtain ⟨l,vs,rfl,sq,_⟩:=den_lst.mp h2; obtain rfl:u2=Value.ref l:=r2; obtain ⟨its,_,p,_⟩:=I.list (g.seq sq); have p':s.heap.IsList l its.toArray:=p.isList; unfold eqDD; exact ⟨SeqAt.EqAt.int_list a t1 p' hu,SeqAt.RcAt.int_list a t1 p' hu⟩
    | str =>
      rename_i a; cases den_strE h1; obtain ⟨t1,rfl⟩:=r1
      cases d2 with
      | non=>cases den_nonE h2; obtain rfl:u2=Value.none:=r2; unfold eqDD; exact ⟨SeqAt.EqAt.str_none a t1 ,SeqAt.RcAt.str_none a t1 ⟩
      | bl=>rename_i b; cases den_blE h2; obtain rfl:u2=Value.bool b:=r2; unfold eqDD; exact ⟨SeqAt.EqAt.str_bool a t1 b,SeqAt.RcAt.str_bool a t1 b⟩
      | int=>rename_i b; cases den_intE h2; obtain ⟨t2,rfl⟩:=r2; unfold eqDD; exact ⟨SeqAt.EqAt.str_int a t1 b t2,SeqAt.RcAt.str_int a t1 b t2⟩
      | str=>rename_i b; cases den_strE h2; obtain ⟨t2,rfl⟩:=r2; unfold eqDD; exact ⟨SeqAt.EqAt.str_str a t1 b t2,SeqAt.RcAt.str_str a t1 b t2⟩
      | tup=>obtain ⟨l,vs,rfl,sq,_⟩:=den_tup.mp h2; obtain rfl:u2=Value.ref l:=r2; obtain ⟨its,_,p,_⟩:=I.tuple (Same.seqT g sq); have p':s.heap.IsTuple l its.toArray:=p; unfold eqDD; exact ⟨SeqAt.EqAt.str_tuple a t1 p' hu,SeqAt.RcAt.str_tuple a t1 p' hu⟩
      | lst=>obtain ⟨l,vs,rfl,sq,_⟩:=den_lst.mp h2; obtain rfl:u2=Value.ref l:=r2; obtain ⟨its,_,p,_⟩:=I.list (g.seq sq); have p':s.heap.IsList l its.toArray:=p.isList; unfold eqDD; exact ⟨SeqAt.EqAt.str_list a t1 p' hu,SeqAt.RcAt.str_list a t1 p' hu⟩
    | tup xs =>
      obtain ⟨l,vs,rfl,sq,l1⟩:=den_tup.mp h1
      obtain rfl:u1=Value.ref l:=r1
      obtain ⟨its,rv,p,_⟩:=I.tuple (Same.seqT g sq)
      have p':s.heap.IsTuple l its.toArray:=p
      cases d2 with
      | non=>cases den_nonE h2; obtain rfl:u2=Value.none:=r2; unfold eqDD; exact ⟨SeqAt.EqAt.tuple_none  p' hu,SeqAt.RcAt.tuple_none  p' hu⟩
      | bl=>rename_i b; cases den_blE h2; obtain rfl:u2=Value.bool b:=r2; unfold eqDD; exact ⟨SeqAt.EqAt.tuple_bool b p' hu,SeqAt.RcAt.tuple_bool b p' hu⟩
      | int=>rename_i b; cases den_intE h2; obtain ⟨t2,rfl⟩:=r2; unfold eqDD; exact ⟨SeqAt.EqAt.tuple_int b t2 p' hu,SeqAt.RcAt.tuple_int b t2 p' hu⟩
      | str=>rename_i b; cases den_strE h2; obtain ⟨t2,rfl⟩:=r2; unfold eqDD; exact ⟨SeqAt.EqAt.tuple_str b t2 p' hu,SeqAt.RcAt.tuple_str b t2 p' hu⟩
      | tup ys =>
        obtain ⟨m,ws,rfl,sq2,l2⟩:=den_tup.mp h2
        obtain rfl:u2=Value.ref m:=r2
        obtain ⟨jts,rv2,p2,_⟩:=I.tuple (Same.seqT g sq2)
        have p2':s.heap.IsTuple m jts.toArray:=p2
        have hd:depDL xs + 1<=n:=by unfold depD at hn; exact hn
        obtain ⟨m',rfl⟩:∃ m',n=m' + 1:=⟨n - 1,by omega⟩
        have he:=seqs m' (λ d1 d2 v1 v2 u1 u2 A a b c d e f=>ih m' (Nat.lt_succ_self _) d1 d2 v1 v2 u1 u2 A a b c d e f) xs ys vs ws its jts A (by omega) hA l1 l2 rv rv2
        have z1:its.toArray.size=xs.length:=by rw [List.size_toArray,<- rv.length,l1.length]
        have z2:jts.toArray.size=ys.length:=by rw [List.size_toArray,<- rv2.length,l2.length]
        have rc:=SeqAt.RcAt.tuples p' p2' hu he
        rw [z1,z2,<- eqDL_at] at rc
        have hh:eqDD (.tup xs) (.tup ys)=eqDL xs ys:=by
          conv=>lhs; unfold eqDD
        refine ⟨?_,by rw [hh]; exact rc⟩
        by_cases q:l=m
        · subst q
          rw [den_same I g _ _ _ h1 h2]
          exact SeqAt.EqAt.same _
        · rw [hh]
          exact SeqAt.EqAt.of_refs q rc
      | lst ys =>
        obtain ⟨m,ws,rfl,sq2,l2⟩:=den_lst.mp h2
        obtain rfl:u2=Value.ref m:=r2
        obtain ⟨jts,rv2,p2,_⟩:=I.list (g.seq sq2)
        have p2':s.heap.IsList m jts.toArray:=p2.isList
        unfold eqDD
        exact ⟨SeqAt.EqAt.tuple_list p' p2' hu,SeqAt.RcAt.tuple_list p' p2' hu⟩
    | lst xs =>
      obtain ⟨l,vs,rfl,sq,l1⟩:=den_lst.mp h1
      obtain rfl:u1=Value.ref l:=r1
      obtain ⟨its,rv,p,_⟩:=I.list (g.seq sq)
      have p':s.heap.IsList l its.toArray:=p.isList
      cases d2 with
      | non=>cases den_nonE h2; obtain rfl:u2=Value.none:=r2; unfold eqDD; exact ⟨SeqAt.EqAt.list_none  p' hu,SeqAt.RcAt.list_none  p' hu⟩
      | bl=>rename_i b; cases den_blE h2; obtain rfl:u2=Value.bool b:=r2; unfold eqDD; exact ⟨SeqAt.EqAt.list_bool b p' hu,SeqAt.RcAt.list_bool b p' hu⟩
      | int=>rename_i b; cases den_intE h2; obtain ⟨t2,rfl⟩:=r2; unfold eqDD; exact ⟨SeqAt.EqAt.list_int b t2 p' hu,SeqAt.RcAt.list_int b t2 p' hu⟩
      | str=>rename_i b; cases den_strE h2; obtain ⟨t2,rfl⟩:=r2; unfold eqDD; exact ⟨SeqAt.EqAt.list_str b t2 p' hu,SeqAt.RcAt.list_str b t2 p' hu⟩
      | tup ys =>
        obtain ⟨m,ws,rfl,sq2,l2⟩:=den_tup.mp h2
        obtain rfl:u2=Value.ref m:=r2
        obtain ⟨jts,rv2,p2,_⟩:=I.tuple (Same.seqT g sq2)
        have p2':s.heap.IsTuple m jts.toArray:=p2
        unfold eqDD
        exact ⟨SeqAt.EqAt.list_tuple p' p2' hu,SeqAt.RcAt.list_tuple p' p2' hu⟩
      | lst ys =>
        obtain ⟨m,ws,rfl,sq2,l2⟩:=den_lst.mp h2
        obtain rfl:u2=Value.ref m:=r2
        obtain ⟨jts,rv2,p2,_⟩:=I.list (g.seq sq2)
        have p2':s.heap.IsList m jts.toArray:=p2.isList
        have hd:depDL xs + 1<=n:=by unfold depD at hn; exact hn
        obtain ⟨m',rfl⟩:∃ m',n=m' + 1:=⟨n - 1,by omega⟩
        have he:=seqs m' (λ d1 d2 v1 v2 u1 u2 A a b c d e f=>ih m' (Nat.lt_succ_self _) d1 d2 v1 v2 u1 u2 A a b c d e f) xs ys vs ws its jts A (by omega) hA l1 l2 rv rv2
        have z1:its.toArray.size=xs.length:=by rw [List.size_toArray,<- rv.length,l1.length]
        have z2:jts.toArray.size=ys.length:=by rw [List.size_toArray,<- rv2.length,l2.length]
        have rc:SeqAt.RcAt A s (.ref l) (.ref m) (eqDL xs ys):=by
          by_cases hz:xs.length=ys.length
          · have rc:=SeqAt.RcAt.lists p' p2' (by rw [z1,z2]; exact hz) hu he
            rw [eqDL_at,<- hz,Nat.min_self,beq_self_eq_true,Bool.and_true,<- z1]
            exact rc
          · have rc:=SeqAt.RcAt.lists_lengths p' p2' (by rw [z1,z2]; simpa using hz) hu
            rw [eqDL_at,beq_eq_false_iff_ne.mpr hz,Bool.and_false]
            exact rc
        have hh:eqDD (.lst xs) (.lst ys)=eqDL xs ys:=by
          conv=>lhs; unfold eqDD
        refine ⟨?_,by rw [hh]; exact rc⟩
        by_cases q:l=m
        · subst q
          rw [den_same I g _ _ _ h1 h2]
          exact SeqAt.EqAt.same _
        · rw [hh]
          exact SeqAt.EqAt.of_refs q rc
  refine main n ?_
  intro m
  induction m using Nat.strongRecOn with
  | _ m ihm=>exact λ _ d1 d2 v1 v2 u1 u2 A a b c d e f=>(main m (λ k hk d1 d2 v1 v2 u1 u2 A a b c d e f=>ihm k hk (by omega) d1 d2 v1 v2 u1 u2 A a b c d e f) d1 d2 v1 v2 u1 u2 A a b c d e f).1
end
section
variable {X:Cx}
def isS:D->Bool
  | .str _=>true
  | _=>false
def eqD (x y:D):Option D:=if depD x<=100∨isS y=true then some (.bl (eqDD x y)) else none
def neD (x y:D):Option D:=if depD x<=100 then some (.bl (!eqDD x y)) else none
theorem opd_eqD (hu:X.A.units + 150 < cLine):OpD X (compareOp .Eq) eqD:=by
  refine ⟨λ x y H Q=>∃ G d1 d2,Same G H/\Den X.K G d1 x/\Den X.K G d2 y/\(depD d1<=100∨isS d2=true)/\Q (.bl (eqDD d1 d2)) H,?_,?_⟩
  · rintro pins s σ H x y v u Q I rx ry ⟨G,d1,d2,g,h1,h2,hd,q⟩
    have main:depD d1<=100->wpAny (model X.prog X.w) X.A (compareOp .Eq v u) (EP X pins σ Q) X.xe s:=λ hd=>(eqAt_D I g 100 d1 d2 x y v u X.A hd (by omega) h1 h2 rx ry).2 X.prog X.w X.xe _ ⟨.bl _,H,I,rfl,q⟩
    rcases hd with hd | hd
    · exact main hd
    · cases d2 with
      | str b =>
        cases den_strE h2
        obtain ⟨t2,rfl⟩:=ry
        cases d1 with
        | tup xs =>
          obtain ⟨l,vs,rfl,sq,l1⟩:=den_tup.mp h1
          obtain rfl:v=Value.ref l:=rx
          obtain ⟨its,rv,p,_⟩:=I.tuple (Same.seqT g sq)
          have p':s.heap.IsTuple l its.toArray:=p
          have e:eqDD (.tup xs) (.str b)=false:=by unfold eqDD; rfl
          rw [e] at q
          exact (SeqAt.RcAt.tuple_str b t2 p' (show X.A.units < cLine by omega)) X.prog X.w X.xe _ ⟨.bl _,H,I,rfl,q⟩
        | lst xs =>
          obtain ⟨l,vs,rfl,sq,l1⟩:=den_lst.mp h1
          obtain rfl:v=Value.ref l:=rx
          obtain ⟨its,rv,p,_⟩:=I.list (g.seq sq)
          have p':s.heap.IsList l its.toArray:=p.isList
          have e:eqDD (.lst xs) (.str b)=false:=by unfold eqDD; rfl
          rw [e] at q
          exact (SeqAt.RcAt.list_str b t2 p' (show X.A.units < cLine by omega)) X.prog X.w X.xe _ ⟨.bl _,H,I,rfl,q⟩
        | non=>exact main (by unfold depD; exact Nat.zero_le _)
        | bl _=>exact main (by unfold depD; exact Nat.zero_le _)
        | int _=>exact main (by unfold depD; exact Nat.zero_le _)
        | str _=>exact main (by unfold depD; exact Nat.zero_le _)
      | non=>cases hd
      | bl _=>cases hd
      | int _=>cases hd
      | tup _=>cases hd
      | lst _=>cases hd
  · intro H G x y d1 d2 d g h1 h2 e Q q
    unfold eqD at e
    split at e
    · rename_i hd
      cases e
      exact ⟨G,d1,d2,g,h1,h2,hd,q _ H G (.refl g) den_bl⟩
    · cases e
end
section
variable {X:Cx} {pins:List (Addr×Obj)} {σ:L2.St} {H G:Hp} {s:Shared}
theorem neAt_D (I:Inv X pins σ H s) (g:Same G H) (d1 d2:D) (v1 v2:V) (u1 u2:Value) (A:Around) (hn:depD d1<=100) (hA:A.units + 100 < cLine) (h1:Den X.K G d1 v1) (h2:Den X.K G d2 v2) (r1:RelV v1 u1) (r2:RelV v2 u2) :
    SeqAt.RcNeAt A s u1 u2 (!eqDD d1 d2):=by
  have hu:A.units < cLine:=by omega
  have seqs:∀ (xs ys:List D) (vs ws:List V) (us ts:List Value),depDL xs<=99->DenL X.K G xs vs->DenL X.K G ys ws->Vals vs us->Vals ws ts->∀ j (h1:j < us.toArray.size) (h2:j < ts.toArray.size),SeqAt.EqAt A.in1 s us.toArray[j] ts.toArray[j] (eqDD (xs.getD j .non) (ys.getD j .non)) :=
    λ xs ys vs ws us ts hn l1 l2 r1 r2 j h1 h2=>by
      have h1':j < us.length:=by simpa using h1
      have h2':j < ts.length:=by simpa using h2
      obtain ⟨x,e1,q1⟩:=vals_get r1 h1'
      obtain ⟨y,e2,q2⟩:=vals_get r2 h2'
      obtain ⟨e3,q3⟩:=den_at l1 e1
      obtain ⟨e4,q4⟩:=den_at l2 e2
      have:=(eqAt_D I g 99 _ _ _ _ _ _ A.in1 (Nat.le_trans (dep_get e3) hn) (by show A.units + 1 + 99 < cLine; omega) q3 q4 q1 q2).1
      simpa using this
  cases d1 with
  | non =>
    cases den_nonE h1; obtain rfl:u1=Value.none:=r1
    cases d2 with
    | non=>cases den_nonE h2; obtain rfl:u2=Value.none:=r2; unfold eqDD; exact SeqAt.RcNeAt.none_none  
    | bl=>rename_i b; cases den_blE h2; obtain rfl:u2=Value.bool b:=r2; unfold eqDD; exact SeqAt.RcNeAt.none_bool  b
    | int=>rename_i b; cases den_intE h2; obtain ⟨t2,rfl⟩:=r2; unfold eqDD; exact SeqAt.RcNeAt.none_int  b t2
    | str=>rename_i b; cases den_strE h2; obtain ⟨t2,rfl⟩:=r2; unfold eqDD; exact SeqAt.RcNeAt.none_str  b t2
    | tup=>obtain ⟨l,vs,rfl,sq,_⟩:=den_tup.mp h2; obtain rfl:u2=Value.ref l:=r2; obtain ⟨its,_,p,_⟩:=I.tuple (Same.seqT g sq); have p':s.heap.IsTuple l its.toArray:=p; unfold eqDD; exact SeqAt.RcNeAt.none_tuple  p' hu
    | lst=>obtain ⟨l,vs,rfl,sq,_⟩:=den_lst.mp h2; obtain rfl:u2=Value.ref l:=r2; obtain ⟨its,_,p,_⟩:=I.list (g.seq sq); have p':s.heap.IsList l its.toArray:=p.isList; unfold eqDD; exact SeqAt.RcNeAt.none_list  p' hu
  | bl =>
    rename_i a; cases den_blE h1; obtain rfl:u1=Value.bool a:=r1
    cases d2 with
    | non=>cases den_nonE h2; obtain rfl:u2=Value.none:=r2; unfold eqDD; exact SeqAt.RcNeAt.bool_none a 
    | bl=>rename_i b; cases den_blE h2; obtain rfl:u2=Value.bool b:=r2; unfold eqDD; exact SeqAt.RcNeAt.bool_bool a b
    | int=>rename_i b; cases den_intE h2; obtain ⟨t2,rfl⟩:=r2; unfold eqDD; exact SeqAt.RcNeAt.bool_int a b t2
    | str=>rename_i b; cases den_strE h2; obtain ⟨t2,rfl⟩:=r2; unfold eqDD; exact SeqAt.RcNeAt.bool_str a b t2
    | tup=>obtain ⟨l,vs,rfl,sq,_⟩:=den_tup.mp h2; obtain rfl:u2=Value.ref l:=r2; obtain ⟨its,_,p,_⟩:=I.tuple (Same.seqT g sq); have p':s.heap.IsTuple l its.toArray:=p; unfold eqDD; exact SeqAt.RcNeAt.bool_tuple a p' hu
    | lst=>obtain ⟨l,vs,rfl,sq,_⟩:=den_lst.mp h2; obtain rfl:u2=Value.ref l:=r2; obtain ⟨its,_,p,_⟩:=I.list (g.seq sq); have p':s.heap.IsList l its.toArray:=p.isList; unfold eqDD; exact SeqAt.RcNeAt.bool_list a p' hu
  | int =>
    rename_i a; cases den_intE h1; obtain ⟨t1,rfl⟩:=r1
    cases d2 with
    | non=>cases den_nonE h2; obtain rfl:u2=Value.none:=r2; unfold eqDD; exact SeqAt.RcNeAt.int_none a t1 
    | bl=>rename_i b; cases den_blE h2; obtain rfl:u2=Value.bool b:=r2; unfold eqDD; exact SeqAt.RcNeAt.int_bool a t1 b
    | int=>rename_i b; cases den_intE h2; obtain ⟨t2,rfl⟩:=r2; unfold eqDD; exact SeqAt.RcNeAt.int_int a t1 b t2
    | str=>rename_i b; cases den_strE h2; obtain ⟨t2,rfl⟩:=r2; unfold eqDD; exact SeqAt.RcNeAt.int_str a t1 b t2
    | tup=>obtain ⟨l,vs,rfl,sq,_⟩:=den_tup.mp h2; obtain rfl:u2=Value.ref l:=r2; obtain ⟨its,_,p,_⟩:=I.tuple (Same.seqT g sq); have p':s.heap.IsTuple l its.toArray:=p; unfold eqDD; exact SeqAt.RcNeAt.int_tuple a t1 p' hu
    | lst=>obtain ⟨l,vs,rfl,sq,_⟩:=den_lst.mp h2; obtain rfl:u2=Value.ref l:=r2; obtain ⟨its,_,p,_⟩:=I.list (g.seq sq); have p':s.heap.IsList l its.toArray:=p.isList; unfold eqDD; exact SeqAt.RcNeAt.int_list a t1 p' hu
  | str =>
    rename_i a; cases den_strE h1; obtain ⟨t1,rfl⟩:=r1
    cases d2 with
    | non=>cases den_nonE h2; obtain rfl:u2=Value.none:=r2; unfold eqDD; exact SeqAt.RcNeAt.str_none a t1 
    | bl=>rename_i b; cases den_blE h2; obtain rfl:u2=Value.bool b:=r2; unfold eqDD; exact SeqAt.RcNeAt.str_bool a t1 b
    | int=>rename_i b; cases den_intE h2; obtain ⟨t2,rfl⟩:=r2; unfold eqDD; exact SeqAt.RcNeAt.str_int a t1 b t2
    | str=>rename_i b; cases den_strE h2; obtain ⟨t2,rfl⟩:=r2; unfold eqDD; exact SeqAt.RcNeAt.str_str a t1 b t2
    | tup=>obtain ⟨l,vs,rfl,sq,_⟩:=den_tup.mp h2; obtain rfl:u2=Value.ref l:=r2; obtain ⟨its,_,p,_⟩:=I.tuple (Same.seqT g sq); have p':s.heap.IsTuple l its.toArray:=p; unfold eqDD; exact SeqAt.RcNeAt.str_tuple a t1 p' hu
    | lst=>obtain ⟨l,vs,rfl,sq,_⟩:=den_lst.mp h2; obtain rfl:u2=Value.ref l:=r2; obtain ⟨its,_,p,_⟩:=I.list (g.seq sq); have p':s.heap.IsList l its.toArray:=p.isList; unfold eqDD; exact SeqAt.RcNeAt.str_list a t1 p' hu
  | tup xs =>
    obtain ⟨l,vs,rfl,sq,l1⟩:=den_tup.mp h1
    obtain rfl:u1=Value.ref l:=r1
    obtain ⟨its,rv,p,_⟩:=I.tuple (Same.seqT g sq)
    have p':s.heap.IsTuple l its.toArray:=p
    cases d2 with
    | non=>cases den_nonE h2; obtain rfl:u2=Value.none:=r2; unfold eqDD; exact SeqAt.RcNeAt.tuple_none  p' hu
    | bl=>rename_i b; cases den_blE h2; obtain rfl:u2=Value.bool b:=r2; unfold eqDD; exact SeqAt.RcNeAt.tuple_bool b p' hu
    | int=>rename_i b; cases den_intE h2; obtain ⟨t2,rfl⟩:=r2; unfold eqDD; exact SeqAt.RcNeAt.tuple_int b t2 p' hu
    | str=>rename_i b; cases den_strE h2; obtain ⟨t2,rfl⟩:=r2; unfold eqDD; exact SeqAt.RcNeAt.tuple_str b t2 p' hu
    | tup ys =>
      obtain ⟨m,ws,rfl,sq2,l2⟩:=den_tup.mp h2
      obtain rfl:u2=Value.ref m:=r2
      obtain ⟨jts,rv2,p2,_⟩:=I.tuple (Same.seqT g sq2)
      have p2':s.heap.IsTuple m jts.toArray:=p2
      have hd:depDL xs + 1<=100:=by unfold depD at hn; exact hn
      have he:=seqs xs ys vs ws its jts (by omega) l1 l2 rv rv2
      have z1:its.toArray.size=xs.length:=by rw [List.size_toArray,<- rv.length,l1.length]
      have z2:jts.toArray.size=ys.length:=by rw [List.size_toArray,<- rv2.length,l2.length]
      have hh:eqDD (.tup xs) (.tup ys)=eqDL xs ys:=by
        conv=>lhs; unfold eqDD
      rw [hh]
      have rc:=SeqAt.RcNeAt.tuples p' p2' hu he
      rw [z1,z2,<- eqDL_at] at rc
      exact rc
    | lst ys =>
      obtain ⟨m,ws,rfl,sq2,l2⟩:=den_lst.mp h2
      obtain rfl:u2=Value.ref m:=r2
      obtain ⟨jts,rv2,p2,_⟩:=I.list (g.seq sq2)
      have p2':s.heap.IsList m jts.toArray:=p2.isList
      unfold eqDD
      exact SeqAt.RcNeAt.tuple_list p' p2' hu
  | lst xs =>
    obtain ⟨l,vs,rfl,sq,l1⟩:=den_lst.mp h1
    obtain rfl:u1=Value.ref l:=r1
    obtain ⟨its,rv,p,_⟩:=I.list (g.seq sq)
    have p':s.heap.IsList l its.toArray:=p.isList
    cases d2 with
    | non=>cases den_nonE h2; obtain rfl:u2=Value.none:=r2; unfold eqDD; exact SeqAt.RcNeAt.list_none  p' hu
    | bl=>rename_i b; cases den_blE h2; obtain rfl:u2=Value.bool b:=r2; unfold eqDD; exact SeqAt.RcNeAt.list_bool b p' hu
    | int=>rename_i b; cases den_intE h2; obtain ⟨t2,rfl⟩:=r2; unfold eqDD; exact SeqAt.RcNeAt.list_int b t2 p' hu
    | str=>rename_i b; cases den_strE h2; obtain ⟨t2,rfl⟩:=r2; unfold eqDD; exact SeqAt.RcNeAt.list_str b t2 p' hu
    | tup ys =>
      obtain ⟨m,ws,rfl,sq2,l2⟩:=den_tup.mp h2
      obtain rfl:u2=Value.ref m:=r2
      obtain ⟨jts,rv2,p2,_⟩:=I.tuple (Same.seqT g sq2)
      have p2':s.heap.IsTuple m jts.toArray:=p2
      unfold eqDD
      exact SeqAt.RcNeAt.list_tuple p' p2' hu
    | lst ys =>
      obtain ⟨m,ws,rfl,sq2,l2⟩:=den_lst.mp h2
      obtain rfl:u2=Value.ref m:=r2
      obtain ⟨jts,rv2,p2,_⟩:=I.list (g.seq sq2)
      have p2':s.heap.IsList m jts.toArray:=p2.isList
      have hd:depDL xs + 1<=100:=by unfold depD at hn; exact hn
      have he:=seqs xs ys vs ws its jts (by omega) l1 l2 rv rv2
      have z1:its.toArray.size=xs.length:=by rw [List.size_toArray,<- rv.length,l1.length]
      have z2:jts.toArray.size=ys.length:=by rw [List.size_toArray,<- rv2.length,l2.length]
      have hh:eqDD (.lst xs) (.lst ys)=eqDL xs ys:=by
        conv=>lhs; unfold eqDD
      rw [hh]
      by_cases hz:xs.length=ys.length
      · have rc:=SeqAt.RcNeAt.lists p' p2' (by rw [z1,z2]; exact hz) hu he
        rw [eqDL_at,<- hz,Nat.min_self,beq_self_eq_true,Bool.and_true,<- z1]
        exact rc
      · have rc:=SeqAt.RcNeAt.lists_lengths p' p2' (by rw [z1,z2]; simpa using hz) hu
        rw [eqDL_at,beq_eq_false_iff_ne.mpr hz,Bool.and_false]
        exact rc
end
section
variable {X:Cx}
theorem opd_neD (hu:X.A.units + 150 < cLine):OpD X (compareOp .NotEq) neD:=⟨λ x y H Q=>∃ G d1 d2,Same G H/\Den X.K G d1 x/\Den X.K G d2 y/\depD d1<=100/\Q (.bl (!eqDD d1 d2)) H,by
    rintro pins s σ H x y v u Q I rx ry ⟨G,d1,d2,g,h1,h2,hd,q⟩
    exact neAt_D I g d1 d2 x y v u X.A hd (by omega) h1 h2 rx ry X.prog X.w X.xe _ ⟨.bl _,H,I,rfl,q⟩,λ H G x y d1 d2 d g h1 h2 e Q q=>by
    unfold neD at e
    split at e
    · rename_i hd
      cases e
      exact ⟨G,d1,d2,g,h1,h2,hd,q _ H G (.refl g) den_bl⟩
    · cases e⟩
def memD (x y:D):Option D:=match y with
  | .tup ys=>if depDL ys<=99 then some (.bl (ys.any λ z=>eqDD z x)) else none
  | .lst ys=>if depDL ys<=99 then some (.bl (ys.any λ z=>eqDD z x)) else none
  | _=>none
theorem rel_abs {v w:V} {u:Value} (a:RelV v u) (b:RelV w u):v=w:=a.inj b
theorem mem_at {pins:List (Addr×Obj)} {σ:L2.St} {H G:Hp} {s:Shared} (I:Inv X pins σ H s) (g:Same G H) {x:D} {v:V} {u:Value} (h1:Den X.K G x v) (r1:RelV v u) (hA:X.A.units + 150 < cLine)
    {ys:List D} {vs:List V} {its:List Value} (hd:depDL ys<=99) (l:DenL X.K G ys vs) (r:Vals vs its):∃ e:Value->Bool,(∀ z,z∈its->SeqAt.EqAt X.A.in1 s z u (e z))/\its.any e=ys.any λ z=>eqDD z x:=by
  classical
  refine ⟨λ z=>decide (∃ d w,Den X.K G d w/\RelV w z/\eqDD d x=true),?_,?_⟩
  · intro z hz
    obtain ⟨j,hj,rfl⟩:=List.getElem_of_mem hz
    obtain ⟨y,e1,q1⟩:=vals_get r hj
    obtain ⟨e3,q3⟩:=den_at l e1
    have:=(eqAt_D I g 99 _ x _ _ _ u X.A.in1 (Nat.le_trans (dep_get e3) hd) (by show X.A.units + 1 + 99 < cLine; omega) q3 h1 q1 r1).1
    have e:decide (∃ d w,Den X.K G d w/\RelV w its[j]/\eqDD d x=true)=eqDD (ys.getD j .non) x:=by
      rw [Bool.eq_iff_iff,decide_eq_true_eq]
      constructor
      · rintro ⟨d,w,a,b,c⟩
        rw [rel_abs b q1] at a
        rw [<- den_inj I g d _ _ a q3]
        exact c
      · exact λ h=>⟨_,_,q3,q1,h⟩
    show SeqAt.EqAt X.A.in1 s its[j] u (decide _)
    rw [e]
    exact this
  · rw [Bool.eq_iff_iff,List.any_eq_true,List.any_eq_true]
    constructor
    · rintro ⟨z,hz,hq⟩
      obtain ⟨d,w,a,b,c⟩:=of_decide_eq_true hq
      obtain ⟨j,hj,rfl⟩:=List.getElem_of_mem hz
      obtain ⟨y,e1,q1⟩:=vals_get r hj
      obtain ⟨e3,q3⟩:=den_at l e1
      rw [rel_abs b q1] at a
      rw [den_inj I g d _ _ a q3] at c
      exact ⟨_,List.mem_of_getElem? e3,c⟩
    · rintro ⟨d,hm,c⟩
      obtain ⟨j,hj,rfl⟩:=List.getElem_of_mem hm
      obtain ⟨w,e1,q1⟩:=l.get (List.getElem?_eq_getElem hj)
      obtain ⟨z,e2,q2⟩:=r.get e1
      exact ⟨z,List.mem_of_getElem? e2,decide_eq_true ⟨_,_,q1,q2,c⟩⟩
theorem opd_mem (hu:X.A.units + 150 < cLine):OpD X (compareOp .In) memD:=by
  refine ⟨λ x y H Q=>∃ G d1 d2 b,Same G H/\Den X.K G d1 x/\Den X.K G d2 y/\memD d1 d2=some (.bl b)/\Q (.bl b) H,?_,?_⟩
  · rintro pins s σ H x y v u Q I rx ry ⟨G,d1,d2,b,g,h1,h2,hm,q⟩
    unfold memD at hm
    split at hm
    · split at hm
      · rename_i hd
        cases hm
        obtain ⟨a,vs,rfl,sq,l⟩:=den_tup.mp h2
        obtain rfl:u=Value.ref a:=ry
        obtain ⟨its,rv,p,_⟩:=I.tuple (Same.seqT g sq)
        obtain ⟨e,he,ha⟩:=mem_at I g h1 rx hu hd l rv
        refine SeqAt.in_tupleAt e (show s.heap.IsTuple a its.toArray from p) (λ z hz=>he z (by simpa using hz)) ⟨.bl _,H,I,rfl,?_⟩
        rw [show its.toArray.any e=its.any e by simp,ha]
        exact q
      · cases hm
    · split at hm
      · rename_i hd
        cases hm
        obtain ⟨a,vs,rfl,sq,l⟩:=den_lst.mp h2
        obtain rfl:u=Value.ref a:=ry
        obtain ⟨its,rv,p,_⟩:=I.list (g.seq sq)
        obtain ⟨e,he,ha⟩:=mem_at I g h1 rx hu hd l rv
        refine SeqAt.in_listAt e p.isList (λ z hz=>he z (by simpa using hz)) ⟨.bl _,H,I,rfl,?_⟩
        rw [show its.toArray.any e=its.any e by simp,ha]
        exact q
      · cases hm
    · cases hm
  · intro H G x y d1 d2 d g h1 h2 e Q q
    have hb:∃ b,d=.bl b:=by
      unfold memD at e
      split at e
      · split at e
        · cases e; exact ⟨_,rfl⟩
        · cases e
      · split at e
        · cases e; exact ⟨_,rfl⟩
        · cases e
      · cases e
    obtain ⟨b,rfl⟩:=hb
    exact ⟨G,d1,d2,b,g,h1,h2,e,q _ H G (.refl g) den_bl⟩
end
end Wy


namespace Wy
open PySem PySem.Spec PyProof.Rows L2
theorem room_u {k:Nat} {A:Around} (r:Room k A):A.units + 150 < cLine:=by have:=r.un; omega
def orD (F F':D->D->Option D):D->D->Option D:=λ x y=>match F x y with
  | some d=>some d
  | none=>F' x y
section
variable {X:Cx}
theorem OpD.or {g:Value->Value->Sem Value} {F F':D->D->Option D} (h:OpD X g F) (h':OpD X g F'):OpD X g (orD F F'):=by
  obtain ⟨r,p,q⟩:=h
  obtain ⟨r',p',q'⟩:=h'
  refine ⟨_,p.or p',λ H G x y d1 d2 d g h1 h2 e Q w=>?_⟩
  unfold orD at e
  split at e
  · rename_i d' e'
    cases e
    exact .inl (q H G x y d1 d2 _ g h1 h2 e' Q w)
  · exact .inr (q' H G x y d1 d2 d g h1 h2 e Q w)
def str2 (g:Str->Str->Option D):D->D->Option D
  | .str x,.str y=>g x y
  | _,_=>none
theorem str2_some {g:Str->Str->Option D} {d1 d2 d:D} (h:str2 g d1 d2=some d):∃ i j,d1=.str i/\d2=.str j/\g i j=some d:=by
  cases d1 <;> cases d2 <;> first | cases h | exact ⟨_,_,rfl,rfl,h⟩
def addS (x y:Str):Option D:=if x.length + y.length<=1000000 then some (.str (x++y)) else none
theorem opd_addS:OpD X (binaryOp .Add) (str2 addS):=⟨_,op_add_str,λ H G x y d1 d2 d g h1 h2 e Q q=>by
  obtain ⟨i,j,rfl,rfl,e'⟩:=str2_some e
  clear e
  unfold addS at e'
  split at e'
  · rename_i hz
    cases e'
    exact ⟨i,j,den_strE h1,den_strE h2,Nat.le_trans hz (by decide),q _ H G (.refl g) den_str⟩
  · cases e'⟩
def addD:D->D->Option D:=orD (int2 λ i j=>some (.int (i + j))) (orD (str2 addS) catD)
theorem opd_addD:OpD X (binaryOp .Add) addD:=opd_add.or (opd_addS.or opd_cat)
def memA:D->D->Option D:=orD memD (str2 λ x y=>some (.bl (inStr x y)))
theorem opd_inT:OpD X (compareOp .In) (str2 λ x y=>some (.bl (inStr x y))):=⟨_,op_in_str,λ H G x y d1 d2 d g h1 h2 e Q q=>by
  obtain ⟨i,j,rfl,rfl,e⟩:=str2_some e
  cases e
  exact ⟨i,j,den_strE h1,den_strE h2,q _ H G (.refl g) den_bl⟩⟩
theorem opd_memA (hu:X.A.units + 150 < cLine):OpD X (compareOp .In) memA:=(opd_mem hu).or opd_inT
end
end Wy


namespace Wy
open PySem PySem.Spec PyProof.Rows L2
section
variable {X:Cx}
end
section
open PySem.SeqAt
open PySem.AutoSeq1 (wpAny_loadPart')
open PySem.MeetsSeq PySem.MeetsSeq2 PySem.MeetsSeq3 PySem.AutoSeq1
end
section
variable {X:Cx}
variable {W:XP} {e:Expr} {fs:Ga->R (Bool×List D)} {pos pos' apos cpos:Pos} {x:Str}
end
end Wy

namespace Wy
open PySem PySem.Spec PyProof.Rows L2 HT
section
variable {prog:Program} {w:World} {A:Around} {E:Value->Shared->Prop} {s:Shared}
end
section
variable {X:Cx} {W:XP} {e:Expr} {f:Ga->R D} {pos p2 p3 p4:Pos}
end
end Wy

namespace Wy
open PySem PySem.Spec PyProof.Rows L2 HT
section
variable {X:Cx}
end
section
variable {X:Cx} {W:XP} {o e:Expr} {fo fe:Ga->R D} {fs:Ga->R (Bool×List D)} {apos cpos:Pos}
def asSs:List D->Option (List Str)
  | []=>some []
  | .str b::ds=>(asSs ds).bind λ r=>some (b::r)
  | _=>none
theorem asSs_den {K:PySem.W.Frag} {G:Hp}:∀ {ds:List D} {vs:List V} {bs:List Str},DenL K G ds vs->asSs ds=some bs->vs=bs.map V.str
  | [],vs,bs,h,e=>by cases e; exact denL_nil.mp h
  | d::ds,vs,bs,h,e=>by
    obtain ⟨v,r,rfl,h1,h2⟩:=denL_cons.mp h
    cases d <;> first | cases e | skip
    obtain ⟨r',e1,e2⟩:=Option.bind_eq_some_iff.mp e
    cases e2
    rw [den_strE h1,asSs_den h2 e1]
    rfl
theorem denL_strs {K:PySem.W.Frag} {G:Hp}:∀ (xs:List Str),DenL K G (xs.map D.str) (xs.map V.str)
  | []=>denL_nil.mpr rfl
  | x::xs=>denL_cons.mpr ⟨_,_,rfl,den_str,denL_strs xs⟩
end
end Wy

namespace Wy
open PySem PySem.Spec PyProof.Rows L2 HT
section
variable {X:Cx}
variable {W:XP} {e:Expr} {f:Ga->R D} {pos p2:Pos} {lo hi:Option Expr} {gl gh:Ga->R (Option Int)}
end
end Wy

namespace Wy
open PySem PySem.Spec PyProof.Rows L2 HT
def asIs:List D->Option (List Int)
  | []=>some []
  | .int b::ds=>(asIs ds).bind λ r=>some (b::r)
  | _=>none
theorem asIs_den {K:PySem.W.Frag} {G:Hp}:∀ {ds:List D} {vs:List V} {bs:List Int},DenL K G ds vs->asIs ds=some bs->vs=bs.map V.int
  | [],vs,bs,h,e=>by cases e; exact denL_nil.mp h
  | d::ds,vs,bs,h,e=>by
    obtain ⟨v,r,rfl,h1,h2⟩:=denL_cons.mp h
    cases d <;> first | cases e | skip
    obtain ⟨r',e1,e2⟩:=Option.bind_eq_some_iff.mp e
    cases e2
    rw [den_intE h1,asIs_den h2 e1]
    rfl
@[simp] theorem asIs_map (ns:List Int):asIs (ns.map D.int)=some ns:=by
  induction ns with
  | nil=>rfl
  | cons n ns ih=>rw [List.map_cons,asIs,ih]; rfl
section
variable {X:Cx}
end
end Wy

namespace Wy
open PySem PySem.Spec PyProof.Rows L2 HT
section
variable {K:PySem.W.Frag} {H₀ G₀ H G:Hp} {Γ:Ga} {σ:L2.St}
theorem Rep.freeze (R:Rep K H₀ G₀ Γ σ H G) {i:Nat} {ds:List D} (hi:Γ[i]?=some (.own ds)):∃ G',Rep K H₀ G₀ (Γ.set i (.val (.lst ds))) σ H G':=by
  obtain ⟨a,vs,s1,s2,s3,s4,s5⟩:=R.ow i ds hi
  have hl:i < Γ.length:=(List.getElem?_eq_some_iff.mp hi).1
  have gg:Same G (upd G a (.lst vs)):=same_upd s4 _
  refine ⟨upd G a (.lst vs),R.ex.take s3 s2 s4,R.tab.updG s2 s4,by rw [List.length_set]; exact R.ln,λ j x q=>?_,λ j k x y b q1 q2 m1 m2 q3 q4=>?_⟩
  · rcases set_at q with ⟨rfl,rfl,_⟩ | ⟨ne,q⟩
    · exact ⟨_,s1,den_lst.mpr ⟨a,vs,rfl,SqL.of upd_same,s5.up gg⟩⟩
    · have old:=R.all j x q
      have nb:∀ b,x.mu=true->σ[j]?=some (some (V.ref b))->b≠a:=λ b hm hb z=>by
        subst z
        exact ne (R.di i j _ _ b hi q rfl hm s1 hb)
      cases x with
      | un=>trivial
      | val d=>obtain ⟨v,e1,e2⟩:=old; exact ⟨v,e1,e2.up gg⟩
      | exc c=>obtain ⟨v,e1,e2⟩:=old; exact ⟨v,e1,e2.up gg⟩
      | fn c φ=>exact ⟨old.1,old.2.2 _ _ gg old.2.1,old.2.2⟩
      | own zs =>
        obtain ⟨b,us,e1,e2,e3,e4,e5⟩:=old
        exact ⟨b,us,e1,e2,e3,by rw [upd_ne (nb b rfl e1)]; exact e4,e5.up gg⟩
      | par b zs =>
        obtain ⟨e1,us,e2,e3,e4,e5⟩:=old
        exact ⟨e1,us,e2,e3,by rw [upd_ne (nb b rfl e1)]; exact e4,e5.up gg⟩
      | dic w kvs =>
        obtain ⟨b,us,e1,e2,e3,e4,e5⟩:=old
        exact ⟨b,us,e1,e2,e3,by rw [upd_ne (nb b rfl e1)]; exact e4,e5.up gg⟩
      | vdi w kvs =>
        obtain ⟨b,us,e1,e2,e3,e5⟩:=old
        exact ⟨b,us,e1,e2,e3,e5.up gg⟩
  · rcases set_at q1 with ⟨rfl,rfl,_⟩ | ⟨n1,q1⟩
    · cases m1
    · rcases set_at q2 with ⟨rfl,rfl,_⟩ | ⟨n2,q2⟩
      · cases m2
      · exact R.di j k x y b q1 q2 m1 m2 q3 q4
end
section
variable {X:Cx} {W:XP} {st:Stmt} {fl:Ga->R (List D)}
theorem x_freeze {i:Nat} (h:ExD X W st (sSetO i fl)):ExD X W st (sSet i (eO fl)):=by
  obtain ⟨t,p,q⟩:=h
  refine ⟨t,p,λ H₀ G₀ Γ σ H G R D w=>q _ _ _ _ _ _ R D ?_⟩
  unfold sSet eO at w
  unfold sSetO
  cases hf:fl Γ with
  | ok ds =>
    rw [hf] at w
    intro σ' H' G' R'
    by_cases hi:i < Γ.length
    · obtain ⟨G2,R2⟩:=R'.freeze (i:=i) (ds:=ds) (by rw [List.getElem?_set_self hi])
      rw [List.set_set] at R2
      exact w _ _ _ R2
    · rw [List.set_eq_of_length_le (Nat.not_lt.mp hi)] at R'
      refine w σ' H' G' ?_
      rw [List.set_eq_of_length_le (Nat.not_lt.mp hi)]
      exact R'
  | ex c=>rw [hf] at w; exact w
  | no=>rw [hf] at w; exact w
end
section
variable {X:Cx}
variable {W:XP} {a b:Expr} {fa fb:Ga->R (Bool×List D)} {pos:Pos}
end
end Wy


namespace Wy
open PySem PySem.Spec PyProof.Rows L2
section
variable {α β:Type} {Γ Γ':Ga} {d x y:D} {xs ys:List D} {f fa fb fc:Ga->R D} {fl:Ga->R (List D)} {fs gs:Ga->R (Bool×List D)} {g ga gb:Ga->R Bool} {T U:Ga->RS} {F F':D->D->Option D} {n:Nat} {sl:Sl} {c:Str}
@[simp] theorem addD_int {i j:Int}:addD (.int i) (.int j)=some (.int (i + j)):=nr rfl
@[simp] theorem eqDD_int {i j:Int}:eqDD (.int i) (.int j)=decide (i=j):=by unfold eqDD; rw [Bool.eq_iff_iff]; simp
@[simp] theorem eqDD_str {i j:Str}:eqDD (.str i) (.str j)=decide (i=j):=by unfold eqDD; rw [Bool.eq_iff_iff]; simp
@[simp] theorem eqDD_bl {i j:Bool}:eqDD (.bl i) (.bl j)=decide (i=j):=by unfold eqDD; rw [Bool.eq_iff_iff]; simp
@[simp] theorem eqDD_tup:eqDD (.tup xs) (.tup ys)=eqDL xs ys:=by conv=>lhs; unfold eqDD
@[simp] theorem eqDD_lst:eqDD (.lst xs) (.lst ys)=eqDL xs ys:=by conv=>lhs; unfold eqDD
@[simp] theorem eqDL_nil:eqDL [] []=true:=by unfold eqDL; rfl
@[simp] theorem eqDL_cons {a b:D}:eqDL (a::xs) (b::ys)=(eqDD a b&&eqDL xs ys):=by conv=>lhs; unfold eqDL
mutual
theorem eqDD_refl:∀ d:D,eqDD d d=true
  | .non=>by unfold eqDD; rfl
  | .bl b=>by simp
  | .int b=>by simp
  | .str b=>by simp
  | .tup xs=>by rw [eqDD_tup]; exact eqDL_refl xs
  | .lst xs=>by rw [eqDD_lst]; exact eqDL_refl xs
theorem eqDL_refl:∀ ds:List D,eqDL ds ds=true
  | []=>eqDL_nil
  | d::ds=>by rw [eqDL_cons,eqDD_refl d,eqDL_refl ds]; rfl
end
@[simp] theorem depD_int {i:Int}:depD (.int i)=0:=by unfold depD; rfl
@[simp] theorem depD_str {i:Str}:depD (.str i)=0:=by unfold depD; rfl
@[simp] theorem depD_bl {i:Bool}:depD (.bl i)=0:=by unfold depD; rfl
theorem eqD_of (h:depD x<=100):eqD x y=some (.bl (eqDD x y)):=if_pos (.inl h)
theorem neD_of (h:depD x<=100):neD x y=some (.bl (!eqDD x y)):=if_pos h
@[simp] theorem eqD_int {i:Int}:eqD (.int i) y=some (.bl (eqDD (.int i) y)):=eqD_of (by simp)
@[simp] theorem eqD_str {i:Str}:eqD (.str i) y=some (.bl (eqDD (.str i) y)):=eqD_of (by simp)
@[simp] theorem neD_int {i:Int}:neD (.int i) y=some (.bl (!eqDD (.int i) y)):=neD_of (by simp)
@[simp] theorem neD_bl {i:Bool}:neD (.bl i) y=some (.bl (!eqDD (.bl i) y)):=neD_of (by simp)
theorem memA_tup (h:depDL ys<=99):memA x (.tup ys)=some (.bl (ys.any λ z=>eqDD z x)):=by
  unfold memA orD memD
  simp only [h,if_true]
theorem depDL_le:∀ {ds:List D} {n:Nat},(∀ d∈ds,depD d<=n)->depDL ds<=n
  | [],n,_=>by unfold depDL; exact Nat.zero_le _
  | d::ds,n,h=>by
    unfold depDL
    exact Nat.max_le.mpr ⟨h d List.mem_cons_self,depDL_le λ x hx=>h x (List.mem_cons_of_mem _ hx)⟩
theorem depDL_strs (ss:List Str):depDL (ss.map D.str)<=99:=depDL_le λ d hd=>by
  obtain ⟨s,_,rfl⟩:=List.mem_map.mp hd
  simp
@[simp] theorem asSs_map (ts:List Str):asSs (ts.map D.str)=some ts:=by
  induction ts with
  | nil=>rfl
  | cons n ns ih=>rw [List.map_cons,asSs,ih]; rfl
section
variable {tb:Str->Option Bool} {V:Str->Ga->RS} {yb:Str->Bool}
end
end
end Wy


namespace Wy
open PySem PySem.Spec PyProof.Rows L2 HT
def srt (ns:List Int):List Int:=ns.mergeSort (λ a b=>decide (a<=b))
theorem srt_sorted (ns:List Int):(srt ns).Pairwise (·<=·):=by
  have:=List.pairwise_mergeSort (le:=λ a b:Int=>decide (a<=b)) (λ a b c h1 h2=>by simp only [decide_eq_true_iff] at *; omega) (λ a b=>by simp only [Bool.or_eq_true,decide_eq_true_iff]; omega) ns
  exact this.imp λ h=>of_decide_eq_true h
theorem srt_perm (ns:List Int):(srt ns).Perm ns:=List.mergeSort_perm ns _
theorem srt_uniq {ns ms:List Int} (h:ms.Perm ns) (hs:ms.Pairwise (·<=·)):ms=srt ns :=
  List.Perm.eq_of_pairwise (λ a b _ _ h1 h2=>Int.le_antisymm h1 h2) hs (srt_sorted ns) (h.trans (srt_perm ns).symm)
theorem vals_ints:∀ {us:List Value} {ns:List Int},IntsAre us ns->Vals (ns.map V.int) us
  | _,_,.nil=>.nil
  | _,_,.cons n t r=>.cons ⟨_,rfl⟩ (vals_ints r)
section
variable {X:Cx}
variable {W:XP} {e:Expr} {fs:Ga->R (Bool×List D)} {pos p2:Pos}
theorem denL_ints {K:PySem.W.Frag} {G:Hp}:∀ (xs:List Int),DenL K G (xs.map D.int) (xs.map V.int)
  | []=>denL_nil.mpr rfl
  | x::xs=>denL_cons.mpr ⟨_,_,rfl,den_int,denL_ints xs⟩
end
def ixOf (x:D):List D->Option Nat
  | []=>none
  | d::ds=>if eqDD d x=true then some 0 else (ixOf x ds).map (· + 1)
theorem ixOf_some {x:D}:∀ {ds:List D} {j:Nat},ixOf x ds=some j->∃ h:j < ds.length,eqDD ds[j] x=true/\∀ m (hm:m < ds.length),m < j->eqDD ds[m] x=false
  | [],j,h=>by cases h
  | d::ds,j,h=>by
    unfold ixOf at h
    split at h
    · rename_i hd
      cases h
      exact ⟨by simp,hd,λ m _ hm=>absurd hm (Nat.not_lt_zero _)⟩
    · rename_i hd
      obtain ⟨i,hi,rfl⟩:=Option.map_eq_some_iff.mp h
      obtain ⟨h1,h2,h3⟩:=ixOf_some hi
      refine ⟨by simp; omega,by simpa using h2,λ m hm hlt=>?_⟩
      cases m with
      | zero=>simpa using hd
      | succ m=>simpa using h3 m (by simp at hm; omega) (by omega)
section
variable {X:Cx}
theorem mem_at2 {pins:List (Addr×Obj)} {σ:L2.St} {H G:Hp} {s:Shared} (I:Inv X pins σ H s) (g:Same G H) {x:D} {v:V} {u:Value} (h1:Den X.K G x v) (r1:RelV v u) (hA:X.A.units + 150 < cLine)
    {ys:List D} {vs:List V} {its:List Value} (hd:depDL ys<=99) (l:DenL X.K G ys vs) (r:Vals vs its):∃ e:Value->Bool,(∀ z,z∈its->SeqAt.EqAt X.A.in1 s z u (e z))/\∀ j (hj:j < its.length),e its[j]=eqDD (ys.getD j .non) x:=by
  classical
  have key:∀ j (hj:j < its.length),decide (∃ d w,Den X.K G d w/\RelV w its[j]/\eqDD d x=true)=eqDD (ys.getD j .non) x:=λ j hj=>by
    obtain ⟨y,e1,q1⟩:=vals_get r hj
    obtain ⟨e3,q3⟩:=den_at l e1
    rw [Bool.eq_iff_iff,decide_eq_true_eq]
    constructor
    · rintro ⟨d,w,a,b,c⟩
      rw [rel_abs b q1] at a
      rw [<- den_inj I g d _ _ a q3]
      exact c
    · exact λ h=>⟨_,_,q3,q1,h⟩
  refine ⟨λ z=>decide (∃ d w,Den X.K G d w/\RelV w z/\eqDD d x=true),?_,key⟩
  intro z hz
  obtain ⟨j,hj,rfl⟩:=List.getElem_of_mem hz
  obtain ⟨y,e1,q1⟩:=vals_get r hj
  obtain ⟨e3,q3⟩:=den_at l e1
  have:=(eqAt_D I g 99 _ x _ _ _ u X.A.in1 (Nat.le_trans (dep_get e3) hd) (by show X.A.units + 1 + 99 < cLine; omega) q3 h1 q1 r1).1
  show SeqAt.EqAt X.A.in1 s its[j] u (decide _)
  rw [key j hj]
  exact this
theorem mt_index (hu:X.A.units + 150 < cLine):MtR X "list.index" (λ x xs H Q=>∃ G p vs ds d v j,x=.ref p/\xs=[v]/\Same G H/\SqL X.K H p vs/\DenL X.K G ds vs/\Den X.K G d v/\depDL ds<=99/\ixOf d ds=some j/\Q (.int (j:Int)) H):=by
  rintro pins s σ H x xs v us Q I rx rv ⟨G,p,vs,ds,d,vd,j,rfl,rfl,g,sq,l,hd,hdep,hj,q⟩
  cases rx
  obtain ⟨u,rfl,ru⟩:=rv.one
  obtain ⟨its,r,⟨⟨c1,d1,t1,s1⟩,n1,g1,hc1,hn1,hd1⟩,hz⟩:=I.list sq
  cases hc1
  cases hd1
  obtain ⟨h1,h2,h3⟩:=ixOf_some hj
  have hl:=l.length
  have hr:=r.length
  obtain ⟨e,he,hat⟩:=mem_at2 I g hd ru hu hdep l r
  have at_:∀ m (hm:m < its.length) (hm':m < ds.length),e its[m]=eqDD ds[m] d:=λ m hm hm'=>by
    rw [hat m hm,List.getD_eq_getElem?_getD,List.getElem?_eq_getElem hm']
    rfl
  have hjn:j < its.toArray.size:=by rw [List.size_toArray]; omega
  refine call_meets F.slot_list_index ⟨_,g1,rfl⟩ F.entry_list_index (F.args_list_index_2 _ _)
    (SeqAt.list_indexAt p its.toArray n1 d1 s1 u e j hjn ?_ ?_ ?_) ⟨g1,λ y hy=>he y (by simpa using hy),.int (j:Int),H,I.tok _,⟨_,rfl⟩,q⟩
  · have:j < sizeLine + 1:=by omega
    have h24:sizeLine + 1<=2 ^ 62:=by decide
    omega
  · have:=at_ j (by omega) h1
    rw [h2] at this
    simpa using this
  · intro m hm hlt
    rw [List.size_toArray] at hm
    have:=at_ m hm (by omega)
    rw [h3 m (by omega) hlt] at this
    simpa using this
variable {W:XP} {o e:Expr} {fs:Ga->R (Bool×List D)} {fe:Ga->R D} {apos cpos:Pos}
def indexS (p:Bool×List D) (d:D):Option D:=match p with
  | (false,ds)=>if depDL ds<=99 then (ixOf d ds).map λ (j:Nat)=>D.int (j:Int) else none
  | _=>none
def eIndex (fs:Ga->R (Bool×List D)) (fe:Ga->R D):Ga->R D:=λ Γ=>(fs Γ).bind λ p=>if p.1=true then .no else (fe Γ).bind λ d=>.ofO (indexS p d)
theorem ev_index (hu:X.A.units + 150 < cLine) (ho:SqD X W o fs) (he:EvD X W e fe) (hs:starEach [e] X.env=[(false,eval e X.env)]:=by rfl) (hline:(apos.endLine == cpos.line)=true:=by rfl)
    (hbase:attributeBase o "index" X.env (eval o X.env)=eval o X.env:=by rfl)
    (hfew:((backTo cpos (starEach [e] X.env)).all (λ x=>!x.1)&&(backToKw cpos (keywordEach [] X.env)).all (λ x=>x.1.isSome)
     &&decide ([e].length + ([]:List Keyword).length + (if ([]:List Keyword).isEmpty then 0 else 1) < 30))=true:=by rfl) :
    EvD X W (.Call (.Attribute o "index" apos) [e] [] cpos) (eIndex fs fe):=by
  obtain ⟨t1,p1,q1⟩:=ho
  obtain ⟨t,p,q⟩:=he
  refine ⟨_,pe_bm PySem.F.plainAttrs_list PySem.F.slot_list_index PySem.F.type_list_index (mt_index hu) p1 (pa_cons p pa_nil hs) hbase hfew hline hs rfl,λ H₀ G₀ Γ σ H G R Q w=>?_⟩
  refine q1 _ _ _ _ _ _ R _ (wStep w (λ _ h=>h) λ pp w a vs H1 G1 E1 s1 l1=>?_)
  obtain ⟨b,ds⟩:=pp
  cases b with
  | true=>rw [if_pos rfl] at w; exact w.elim
  | false =>
    rw [if_neg (by simp)] at w
    refine ⟨.inl ⟨rfl,vs,s1⟩,q _ _ _ _ _ _ (R.after E1) _ (wStep w (λ _ h=>h.up E1) λ d2 w v2 H2 G2 E2 h2=>?_)⟩
    obtain ⟨d',e2,w⟩:=wOfO w
    unfold indexS at e2
    dsimp only at e2
    split at e2
    · rename_i hdep
      obtain ⟨j,e3,e4⟩:=Option.map_eq_some_iff.mp e2
      cases e4
      exact ⟨G2,a,vs,ds,d2,v2,j,rfl,rfl,E2.gh,(s1:SqL X.K H1 a vs) |> λ z=>E2.hh.seq z,l1.up E2.gg,h2,hdep,e3,w _ H2 G2 (E1.trans E2) den_int⟩
    · cases e2
end
end Wy

namespace Wy
open PySem PySem.Spec PyProof.Rows L2 HT
section
variable {X:Cx} {W:XP} {e ix:Expr} {f fi:Ga->R D} {pos pos' p2 apos cpos:Pos} {x:Str}
end
end Wy

namespace Wy
open PySem PySem.Spec PyProof.Rows L2 HT
section
variable {X:Cx} {W:XP} {st:Stmt} {F:Ga->RS}
end
section
variable {α:Type} {Γ:Ga} {d x:D} {xs ys:List D} {f fi:Ga->R D} {fs:Ga->R (Bool×List D)} {n:Nat}
@[simp] theorem eIndex_eq:eIndex fs f Γ=(fs Γ).bind λ p=>if p.1=true then .no else (f Γ).bind λ d=>.ofO (indexS p d):=nr rfl
theorem indexS_eq (h:depDL xs<=99):indexS (false,xs) d=(ixOf d xs).map λ (j:Nat)=>D.int (j:Int):=if_pos h
end
end Wy


namespace Lw
open PySem PySem.Spec PyProof.Rows L2 Wy Wl
abbrev N_q7:List Str:=["_law_script","_law_k"]
def B_q7:Ga->RS:=(sSeq (sIf (tB (e2 ltD (eV 1) (eB lenD (aCons (eV 0) aNil)))) (sRet (e2 ixD (eV 0) (eV 1))) sNext) (sRet (eC (.int 0))))
def M_q7:List D->R D:=λ ds=>callR N_q7 (B_q7) ds
abbrev N_q11:List Str:=["_law_cell_here","_law_prime","_law_many"]
def B_q11:Ga->RS:=(sRet (e2 (int2 modI) (e2 (int2 modI) (e2 (int2 mulI) (eV 0) (eC (.int 48271))) (eV 1)) (eV 2)))
def M_q11:List D->R D:=λ ds=>callR N_q11 (B_q11) ds
abbrev N_q2:List Str:=["_law_seed","_law_left","_law_turn","_law_one"]
def B_q2 (M_q11:List D->R D) (M_q2:List D->R D):Ga->RS:=(sSeq (sSet 2 (eCall M_q11 (aCons (eV 0) (aCons (eC (.int 9973)) (aCons (eC (.int 11)) aNil))))) (sSeq (sIf (tOrR (tB (e2 eqD (eV 1) (eC (.int 0)))) (tB (e2 ltD (eV 2) (eC (.int 2))))) (sRet (eTup (aCons (eC (.str "name")) (aCons (eIxS (sO (aCons (eC (.str "a")) (aCons (eC (.str "b")) (aCons (eC (.str "zz")) aNil)))) (eCall M_q11 (aCons (eV 0) (aCons (eC (.int 9967)) (aCons (eC (.int 3)) aNil))))) aNil)))) sNext) (sSeq (sSet 3 (eCall M_q2 (aCons (e2 addD (e2 (int2 mulI) (eV 0) (eC (.int 3))) (eC (.int 1))) (aCons (e2 (int2 λ i j=>some (.int (i - j))) (eV 1) (eC (.int 1))) aNil)))) (sSeq (sIf (tB (e2 ltD (eV 2) (eC (.int 4)))) (sRet (eTup (aCons (eC (.str "not")) (aCons (eV 3) aNil)))) sNext) (sSeq (sIf (tB (e2 ltD (eV 2) (eC (.int 8)))) (sRet (eTup (aCons (eIxS (sO (aCons (eC (.str "and")) (aCons (eC (.str "or")) aNil))) (eCall M_q11 (aCons (eV 0) (aCons (eC (.int 9949)) (aCons (eC (.int 2)) aNil))))) (aCons (eV 3) (aCons (eCall M_q2 (aCons (e2 addD (e2 (int2 mulI) (eV 0) (eC (.int 5))) (eC (.int 2))) (aCons (e2 (int2 λ i j=>some (.int (i - j))) (eV 1) (eC (.int 1))) aNil))) aNil))))) sNext) (sRet (eTup (aCons (eIxS (sO (aCons (eC (.str "all")) (aCons (eC (.str "some")) aNil))) (eCall M_q11 (aCons (eV 0) (aCons (eC (.int 9941)) (aCons (eC (.int 2)) aNil))))) (aCons (eCall M_q11 (aCons (eV 0) (aCons (eC (.int 9931)) (aCons (eC (.int 3)) aNil)))) (aCons (eV 3) aNil))))))))))
def M_q2:Nat->List D->R D
  | 0,_=>.no
  | n + 1,ds=>callR N_q2 (B_q2 M_q11 (M_q2 n)) ds
abbrev N_q9:List Str:=["_law_script","_law_k","_law_own","_law_count","_law_found","_law_world","_law_names","_law_at","_law_name","_law_ways","_law_kind","_law_seed","_law_some"]
def L_q9_2 (M_q11:List D->R D) (M_q7:List D->R D):Ga->RS:=(sIf (tB (e2 eqD (eCall M_q11 (aCons (e2 addD (e2 addD (eCall M_q7 (aCons (eV 0) (aCons (e2 addD (eV 1) (eC (.int 1))) aNil))) (e2 (int2 mulI) (eC (.int 7)) (eV 5))) (eV 7)) (aCons (eC (.int 9929)) (aCons (eC (.int 2)) aNil)))) (eC (.int 0)))) (sApp 6 (eV 8)) sNext)
def L_q9_3 (M_q7:List D->R D) (M_q11:List D->R D):Ga->RS:=(sSeq (sSet 11 (e2 addD (eCall M_q7 (aCons (eV 0) (aCons (e2 addD (e2 addD (eV 1) (eC (.int 2))) (eV 10)) aNil))) (e2 (int2 mulI) (eC (.int 31)) (eV 5)))) (sSeq (sSet 12 (eO (cpR (iR1 (aCons (eV 3) aNil)) (tOrR (tB (e2 eqD (eCall M_q11 (aCons (e2 addD (eV 13) (e2 (int2 mulI) (eC (.int 5)) (eV 0))) (aCons (eC (.int 9923)) (aCons (eC (.int 3)) aNil)))) (eC (.int 0)))) (tAndR (tB (e2 eqD (eV 4) (eC (.int 1)))) (tB (e2 eqD (eV 0) (eV 7))))) (eV 0)))) (sApp 9 (eS tupS (sV 12)))))
def L_q9_1 (M_q11:List D->R D) (M_q7:List D->R D):Ga->RS:=(sSeq (sSetO 6 aNil) (sSeq (sFor (iE (eO (aCons (eC (.str "a")) (aCons (eC (.str "b")) (aCons (eC (.str "zz")) aNil))))) (gTwo (gName' 7) (gName' 8)) (L_q9_2 M_q11 M_q7)) (sSeq (sSetO 9 aNil) (sSeq (sFor (iR1 (aCons (eC (.int 3)) aNil)) (gName' 10) (L_q9_3 M_q7 M_q11)) (sApp 4 (eTup (aCons (eS tupS (sV 6)) (aCons (eS tupS (sV 9)) aNil))))))))
def B_q9 (M_q7:List D->R D) (M_q11:List D->R D):Ga->RS:=(sSeq (sSet 3 (e2 addD (eC (.int 1)) (e2 (int2 modI) (eCall M_q7 (aCons (eV 0) (aCons (eV 1) aNil))) (eC (.int 5))))) (sSeq (sSetO 4 aNil) (sSeq (sFor (iR1 (aCons (eV 3) aNil)) (gName' 5) (L_q9_1 M_q11 M_q7)) (sRet (eS tupS (sV 4))))))
def M_q9:List D->R D:=λ ds=>callR N_q9 (B_q9 M_q7 M_q11) ds
abbrev N_q4:List Str:=["_law_yard_here","_law_world","_law_saying_here","_law_one"]
def L_q4_1 (M_q4:List D->R D):Ga->RS:=(sIf (tB (e2 neD (eCall M_q4 (aCons (eV 0) (aCons (eV 3) (aCons (e2 ixD (eV 2) (eC (.int 2))) aNil)))) (e2 eqD (e2 ixD (eV 2) (eC (.int 0))) (eC (.str "all"))))) (sRet (e2 eqD (e2 ixD (eV 2) (eC (.int 0))) (eC (.str "some")))) sNext)
def B_q4 (M_q4:List D->R D):Ga->RS:=(sSeq (sIf (tB (e2 eqD (e2 ixD (eV 2) (eC (.int 0))) (eC (.str "name")))) (sRet (e2 memA (e2 ixD (eV 2) (eC (.int 1))) (e2 ixD (e2 ixD (eV 0) (eV 1)) (eC (.int 0))))) sNext) (sSeq (sIf (tB (e2 eqD (e2 ixD (eV 2) (eC (.int 0))) (eC (.str "not")))) (sRet (eNot (eCall M_q4 (aCons (eV 0) (aCons (eV 1) (aCons (e2 ixD (eV 2) (eC (.int 1))) aNil)))))) sNext) (sSeq (sIf (tB (e2 eqD (e2 ixD (eV 2) (eC (.int 0))) (eC (.str "and")))) (sRet (eAnd (eCall M_q4 (aCons (eV 0) (aCons (eV 1) (aCons (e2 ixD (eV 2) (eC (.int 1))) aNil)))) (eCall M_q4 (aCons (eV 0) (aCons (eV 1) (aCons (e2 ixD (eV 2) (eC (.int 2))) aNil)))))) sNext) (sSeq (sIf (tB (e2 eqD (e2 ixD (eV 2) (eC (.int 0))) (eC (.str "or")))) (sRet (eOr (eCall M_q4 (aCons (eV 0) (aCons (eV 1) (aCons (e2 ixD (eV 2) (eC (.int 1))) aNil)))) (eCall M_q4 (aCons (eV 0) (aCons (eV 1) (aCons (e2 ixD (eV 2) (eC (.int 2))) aNil)))))) sNext) (sSeq (sFor (iT (e2 ixD (e2 ixD (e2 ixD (eV 0) (eV 1)) (eC (.int 1))) (e2 ixD (eV 2) (eC (.int 1))))) (gName' 3) (L_q4_1 M_q4)) (sRet (e2 eqD (e2 ixD (eV 2) (eC (.int 0))) (eC (.str "all")))))))))
def M_q4:Nat->List D->R D
  | 0,_=>.no
  | n + 1,ds=>callR N_q4 (B_q4 (M_q4 n)) ds
end Lw


namespace Wl
open PySem PySem.Spec PyProof.Rows L2 Wy
inductive Say where
  | nm (x:Str) | neg (a:Say) | two (c:Bool) (a b:Say) | way (c:Bool) (k:Nat) (a:Say)
  deriving DecidableEq
def hd2 (c:Bool):Str:=if c=true then "and" else "or"
def hdw (c:Bool):Str:=if c=true then "all" else "some"
def dS:Say->D
  | .nm x=>.tup [.str "name",.str x]
  | .neg a=>.tup [.str "not",dS a]
  | .two c a b=>.tup [.str (hd2 c),dS a,dS b]
  | .way c k a=>.tup [.str (hdw c),.int (k:Int),dS a]
def depS:Say->Nat
  | .nm _=>0
  | .neg a=>depS a + 1
  | .two _ a b=>max (depS a) (depS b) + 1
  | .way _ _ a=>depS a + 1
def okS:Say->Bool
  | .nm x=>decide (x∈(["a","b","zz"]:List Str))
  | .neg a=>okS a
  | .two _ a b=>okS a&&okS b
  | .way _ k a=>decide (k < 3)&&okS a
def nam (s:Int):Str:=(["a","b","zz"]:List Str).getD (mixI s 9967 3).toNat ""
def lawS:Nat->Int->Say
  | 0,s=>.nm (nam s)
  | n + 1,s=>if mixI s 9973 11 < 2 then .nm (nam s) else if mixI s 9973 11 < 4 then .neg (lawS n (s * 3 + 1)) else if mixI s 9973 11 < 8 then .two (decide (mixI s 9949 2=0)) (lawS n (s * 3 + 1)) (lawS n (s * 5 + 2))
    else .way (decide (mixI s 9941 2=0)) (mixI s 9931 3).toNat (lawS n (s * 3 + 1))
theorem mix3 (s p:Int):(mixI s p 3=0∨mixI s p 3=1)∨mixI s p 3=2:=by
  have:=mix_lt s p 3 (by decide); omega
theorem mix2 (s p:Int):mixI s p 2=0∨mixI s p 2=1:=by
  have:=mix_lt s p 2 (by decide); omega
theorem nam_ok (s:Int):nam s∈(["a","b","zz"]:List Str):=by
  unfold nam
  rcases mix3 s 9967 with (h | h) | h <;> rw [h] <;> decide
theorem lawS_ok:∀ (n:Nat) (s:Int),okS (lawS n s)=true/\depS (lawS n s)<=n
  | 0,s=>⟨decide_eq_true (nam_ok s),Nat.le_refl _⟩
  | n + 1,s=>by
    have h1:=lawS_ok n (s * 3 + 1)
    have h2:=lawS_ok n (s * 5 + 2)
    have h3:=mix_lt s 9931 3 (by decide)
    unfold lawS
    split
    · exact ⟨decide_eq_true (nam_ok s),Nat.zero_le _⟩
    · split
      · exact ⟨h1.1,Nat.succ_le_succ h1.2⟩
      · split
        · refine ⟨by simp [okS,h1.1,h2.1],?_⟩
          simp only [depS]
          omega
        · refine ⟨by simp [okS,h1.1]; omega,?_⟩
          simp only [depS]
          omega
end Wl
namespace Lw
open PySem PySem.Spec PyProof.Rows L2 Wy Wl
theorem m_mix (c p m:Int) (hp:0 < p) (hm:0 < m):M_q11 [.int c,.int p,.int m]=.ok (.int (mixI c p m)):=by
  simp [M_q11,B_q11,begin_,hp,hm,mixI]
theorem m_cell (ns:List Int) (k:Nat):M_q7 [dLs ns,.int k]=.ok (.int (cellI ns k)):=by
  by_cases h:k < ns.length
  · have e:atI (ns.map D.int) (k:Int)=some (D.int (cellI ns k)):=atI_nat (by simp [cellI,h,List.getD_eq_getElem?_getD])
    simp [M_q7,B_q7,begin_,dLs,h,e]
  · have e:cellI ns k=0:=by simp [cellI,List.getD_eq_getElem?_getD,List.getElem?_eq_none (by omega:ns.length<=k)]
    simp [M_q7,B_q7,begin_,dLs,h,e]
theorem at_nam (s:Int):atI [D.str "a",D.str "b",D.str "zz"] (mixI s 9967 3)=some (.str (nam s)):=by
  unfold nam
  rcases mix3 s 9967 with (h | h) | h <;> rw [h] <;> rfl
theorem at_hd2 (s p:Int):atI [D.str "and",D.str "or"] (mixI s p 2)=some (.str (hd2 (decide (mixI s p 2=0)))):=by
  rcases mix2 s p with h | h <;> rw [h] <;> rfl
theorem at_hdw (s p:Int):atI [D.str "all",D.str "some"] (mixI s p 2)=some (.str (hdw (decide (mixI s p 2=0)))):=by
  rcases mix2 s p with h | h <;> rw [h] <;> rfl
theorem m_saying:∀ (n left:Nat) (s:Int),left < n->M_q2 n [.int s,.int left]=.ok (dS (lawS left s))
  | 0,_,_,h=>absurd h (Nat.not_lt_zero _)
  | n + 1,0,s,_=>by simp [M_q2,B_q2,begin_,m_mix,at_nam,lawS,dS]
  | n + 1,left + 1,s,h=>by
    have ih1:=m_saying n left (s * 3 + 1) (by omega)
    have ih2:=m_saying n left (s * 5 + 2) (by omega)
    have e0:¬ ((left:Int) + 1=0):=by omega
    have e1:(left:Int) + 1 - 1=(left:Int):=by omega
    have hk:=mix_lt s 9931 3 (by decide)
    have ek:(((mixI s 9931 3).toNat:Nat):Int)=mixI s 9931 3:=Int.toNat_of_nonneg hk.1
    by_cases c1:mixI s 9973 11 < 2
    · simp [M_q2,B_q2,begin_,m_mix,at_nam,lawS,dS,e0,e1,c1]
    · by_cases c2:mixI s 9973 11 < 4
      · simp [M_q2,B_q2,begin_,m_mix,lawS,dS,e0,e1,c1,c2,ih1]
      · by_cases c3:mixI s 9973 11 < 8
        · simp [M_q2,B_q2,begin_,m_mix,lawS,dS,e0,e1,c1,c2,c3,ih1,ih2,at_hd2]
        · simp [M_q2,B_q2,begin_,m_mix,lawS,dS,e0,e1,c1,c2,c3,ih1,at_hdw,ek]
end Lw

namespace Lw
open PySem PySem.Spec PyProof.Rows L2 Wy Wl
def tName (ns:List Int) (k w:Nat) (acc:List D) (d:D):List D:=match d with
  | .tup [.int i,.str x]=>if mixI (cellI ns (k + 1) + 7 * (w:Int) + i) 9929 2=0 then acc++[.str x] else acc
  | _=>acc
theorem turn_name (ns:List Int) (k w:Nat) (own c:Int) (found acc:List D) (x9 x10 x11 x12 a b:Sl) (i:Int) (x:Str) (hl:acc.length < 16000000) :
    L_q9_2 M_q11 M_q7 [.val (dLs ns),.val (.int k),.val (.int own),.val (.int c),.own found,.val (.int w),.own acc,.val (.int i),.val (.str x),x9,x10,x11,x12] =
      .nx [.val (dLs ns),.val (.int k),.val (.int own),.val (.int c),.own found,.val (.int w),.own (tName ns k w acc (.tup [.int i,.str x])),.val (.int i),.val (.str x),x9,x10,x11,x12]:=by
  have e1:M_q7 [dLs ns,.int ((k:Int) + 1)]=.ok (.int (cellI ns (k + 1))):=m_cell ns (k + 1)
  by_cases h:mixI (cellI ns (k + 1) + 7 * (w:Int) + i) 9929 2=0
  · simp [L_q9_2,e1,m_mix,h,hl,tName]
  · simp [L_q9_2,e1,m_mix,h,hl,tName]
theorem names_fold (ns:List Int) (k w:Nat):(enumL [.str "a",.str "b",.str "zz"]).foldl (tName ns k w) []=(yNames ns k w).map D.str:=by
  show tName ns k w (tName ns k w (tName ns k w [] (.tup [.int ((0:Nat):Int),.str "a"])) (.tup [.int ((1:Nat):Int),.str "b"])) (.tup [.int ((2:Nat):Int),.str "zz"])=_
  unfold yNames
  simp only [tName]
  by_cases c1:mixI (cellI ns (k + 1) + 7 * (w:Int) + ((0:Nat):Int)) 9929 2=0 <;> by_cases c2:mixI (cellI ns (k + 1) + 7 * (w:Int) + ((1:Nat):Int)) 9929 2=0 <;> by_cases c3:mixI (cellI ns (k + 1) + 7 * (w:Int) + ((2:Nat):Int)) 9929 2=0 <;> simp only [c1,c2,c3,if_true,if_false,List.filter,decide_true,decide_false,List.map,List.nil_append,List.cons_append]
theorem turn_kind (ns:List Int) (k w kind:Nat) (own:Int) (found nms acc:List D) (x7 x8 x11 x12:Sl) (hl:acc.length < 16000000) :
    ∃ y11 y12,L_q9_3 M_q7 M_q11 [.val (dLs ns),.val (.int k),.val (.int own),.val (.int (yCount ns k)),.own found,.val (.int w),.own nms,x7,x8,.own acc,.val (.int kind),x11,x12] =
      .nx [.val (dLs ns),.val (.int k),.val (.int own),.val (.int (yCount ns k)),.own found,.val (.int w),.own nms,x7,x8,.own (acc++[dRow (yRow ns k own w kind)]),.val (.int kind),y11,y12]:=by
  have hc:=yCount_le ns k
  have e1:M_q7 [dLs ns,.int ((k:Int) + 2 + (kind:Int))]=.ok (.int (cellI ns (k + 2 + kind))):=m_cell ns (k + 2 + kind)
  have eR:rng1 [.int (yCount ns k:Int)]=some ((List.range (yCount ns k)).map λ (j:Nat)=>D.int (j:Int)):=rng1_nat (by omega)
  refine ⟨.val (.int (cellI ns (k + 2 + kind) + 31 * (w:Int))),.val (.lst ((yRow ns k own w kind).map λ (n:Nat)=>D.int (n:Int))),?_⟩
  have hcomp:∀ Γ:Ga,Γ=[.val (dLs ns),.val (.int k),.val (.int own),.val (.int (yCount ns k)),.own found,.val (.int w),.own nms,x7,x8,.own acc,.val (.int kind),.val (.int (cellI ns (k + 2 + kind) + 31 * (w:Int))),x12]->
      compR (tOrR (Wy.tB (e2 eqD (eCall M_q11 (aCons (e2 addD (eV 13) (e2 (int2 mulI) (eC (.int 5)) (eV 0))) (aCons (eC (.int 9923)) (aCons (eC (.int 3)) aNil)))) (eC (.int 0)))) (tAndR (Wy.tB (e2 eqD (eV 4) (eC (.int 1)))) (Wy.tB (e2 eqD (eV 0) (eV 7))))) (eV 0) Γ ((List.range (yCount ns k)).map λ (j:Nat)=>D.int (j:Int))=.ok ((yRow ns k own w kind).map λ (n:Nat)=>D.int (n:Int)):=λ Γ hΓ=>by
    subst hΓ
    rw [compR_filter (p:=λ d=>match d with | .int j=>decide (mixI (cellI ns (k + 2 + kind) + 31 * (w:Int) + 5 * j) 9923 3=0)||(decide (own=1)&&decide (j=(w:Int))) | _=>false) (h:=id)]
    · rw [List.map_id,List.filter_map]
      have e:List.filter ((λ d:D=>match d with | .int j=>decide (mixI (cellI ns (k + 2 + kind) + 31 * (w:Int) + 5 * j) 9923 3=0)||(decide (own=1)&&decide (j=(w:Int))) | _=>false) ∘ λ (j:Nat)=>D.int (j:Int)) (List.range (yCount ns k))=yRow ns k own w kind:=by
        unfold yRow
        apply List.filter_congr
        intro x _
        have:decide ((x:Int)=(w:Int))=decide (x=w):=by rw [Bool.eq_iff_iff]; simp; omega
        simp only [Function.comp,this]
      rw [e]
    · intro d hd
      obtain ⟨j,_,rfl⟩:=List.mem_map.mp hd
      by_cases h1:mixI (cellI ns (k + 2 + kind) + 31 * (w:Int) + 5 * (j:Int)) 9923 3=0
      · simp [m_mix,h1]
      · by_cases h2:own=1
        · simp [m_mix,h1,h2]
        · simp [m_mix,h1,h2]
    · intro d hd _
      obtain ⟨j,_,rfl⟩:=List.mem_map.mp hd
      simp
  have hl2:yCount ns k < 16000000:=by omega
  simp [L_q9_3,e1,eR,hcomp _ rfl,hl,dRow,hl2]
theorem rows_fold (ns:List Int) (k w:Nat) (own:Int):((List.range 3).map λ (j:Nat)=>D.int (j:Int)).foldl (λ acc d=>match d with | .int i=>acc++[dRow (yRow ns k own w i.toNat)] | _=>acc) []=((List.range 3).map (yRow ns k own w)).map dRow:=by
  show []++[dRow (yRow ns k own w 0)]++[dRow (yRow ns k own w 1)]++[dRow (yRow ns k own w 2)]=_
  rfl
theorem turn_world (ns:List Int) (k w:Nat) (own:Int) (found:List D) (x6 x7 x8 x9 x10 x11 x12:Sl) (hl:found.length < 16000000) :
    ∃ y6 y7 y8 y9 y10 y11 y12,L_q9_1 M_q11 M_q7 [.val (dLs ns),.val (.int k),.val (.int own),.val (.int (yCount ns k)),.own found,.val (.int w),x6,x7,x8,x9,x10,x11,x12] =
      .nx [.val (dLs ns),.val (.int k),.val (.int own),.val (.int (yCount ns k)),.own (found++[dWd (lawWd ns k own w)]),.val (.int w),y6,y7,y8,y9,y10,y11,y12]:=by
  obtain ⟨Γ1,h1,ha,a,b',rfl⟩:=turns_ix (g:=gTwo (gName' 7) (gName' 8)) (T:=L_q9_2 M_q11 M_q7) (λ i acc Γ=>acc.length<=i/\∃ a b,Γ=[.val (dLs ns),.val (.int k),.val (.int own),.val (.int (yCount ns k)),.own found,.val (.int w),.own acc,a,b,x9,x10,x11,x12]) (tName ns k w)
    (enumL [.str "a",.str "b",.str "zz"]) 0 [] [.val (dLs ns),.val (.int k),.val (.int own),.val (.int (yCount ns k)),.own found,.val (.int w),.own [],x7,x8,x9,x10,x11,x12] (by
      rintro i acc d Γ hd ⟨hi,a,b,rfl⟩
      have hd':=hd
      have hi3:i < 3:=(List.getElem?_eq_some_iff.mp hd).1
      have hm:∃ (j:Nat) (x:Str),d=.tup [.int (j:Int),.str x]:=by
        match i,hi3,hd with
        | 0,_,hd=>cases hd; exact ⟨0,"a",rfl⟩
        | 1,_,hd=>cases hd; exact ⟨1,"b",rfl⟩
        | 2,_,hd=>cases hd; exact ⟨2,"zz",rfl⟩
      obtain ⟨j,x,rfl⟩:=hm
      refine ⟨_,_,rfl,.inl (turn_name ns k w own (yCount ns k) found acc x9 x10 x11 x12 a b j x (by omega)),?_,_,_,rfl⟩
      simp only [tName]
      split <;> simp <;> omega) ⟨by simp,_,_,rfl⟩
  rw [names_fold] at h1
  obtain ⟨Γ2,h2,hb,c',d',e',rfl⟩:=turns_ix (g:=gName' 10) (T:=L_q9_3 M_q7 M_q11) (λ i acc Γ=>acc.length<=i/\∃ c d e,Γ=[.val (dLs ns),.val (.int k),.val (.int own),.val (.int (yCount ns k)),.own found,.val (.int w),.own ((yNames ns k w).map D.str),a,b',.own acc,c,d,e]) (λ acc d=>match d with | .int i=>acc++[dRow (yRow ns k own w i.toNat)] | _=>acc)
    ((List.range 3).map λ (j:Nat)=>D.int (j:Int)) 0 [] [.val (dLs ns),.val (.int k),.val (.int own),.val (.int (yCount ns k)),.own found,.val (.int w),.own ((yNames ns k w).map D.str),a,b',.own [],x10,x11,x12] (by
      rintro i acc d Γ hd ⟨hi,c,d',e,rfl⟩
      have hi3:i < 3:=by simpa using (List.getElem?_eq_some_iff.mp hd).1
      rw [List.getElem?_map,List.getElem?_range hi3] at hd
      cases hd
      obtain ⟨y11,y12,hq⟩:=turn_kind ns k w i own found ((yNames ns k w).map D.str) acc a b' d' e (by omega)
      exact ⟨_,_,rfl,.inl hq,by simp; omega,_,_,_,rfl⟩) ⟨by simp,_,_,_,rfl⟩
  rw [rows_fold] at h2
  have eR3:rng1 [.int 3]=some ((List.range 3).map λ (j:Nat)=>D.int (j:Int)):=rng1_nat (k:=3) (by decide)
  exact ⟨.own ((yNames ns k w).map D.str),a,b',.own (((List.range 3).map (yRow ns k own w)).map dRow),c',d',e',by simp only [L_q9_1]; simp [h1,h2,eR3,hl,dWd,lawWd,dNames,dWays]⟩
theorem m_yard (ns:List Int) (k:Nat) (own:Int):M_q9 [dLs ns,.int k,.int own]=.ok (dYd (lawYd ns k own)):=by
  have hc:=yCount_le ns k
  have e0:(1:Int) + cellI ns k % 5=(yCount ns k:Int):=by
    have h1:=Int.emod_nonneg (cellI ns k) (show (5:Int)≠0 by decide)
    unfold yCount
    omega
  have eR:rng1 [.int (yCount ns k:Int)]=some ((List.range (yCount ns k)).map λ (j:Nat)=>D.int (j:Int)):=rng1_nat (by omega)
  obtain ⟨Γ1,h1,ha,y6,y7,y8,y9,y10,y11,y12,y13,rfl⟩:=turns_ix (g:=gName' 5) (T:=L_q9_1 M_q11 M_q7) (λ i acc Γ=>acc.length<=i/\∃ a b c d e f g h,Γ=[.val (dLs ns),.val (.int k),.val (.int own),.val (.int (yCount ns k)),.own acc,a,b,c,d,e,f,g,h])
    (λ acc d=>match d with | .int i=>acc++[dWd (lawWd ns k own i.toNat)] | _=>acc)
    ((List.range (yCount ns k)).map λ (j:Nat)=>D.int (j:Int)) 0 [] [.val (dLs ns),.val (.int k),.val (.int own),.val (.int (yCount ns k)),.own [],.un,.un,.un,.un,.un,.un,.un,.un] (by
      rintro i acc d Γ hd ⟨hi,a,b,c,d',e,f,g,h,rfl⟩
      have hi3:i < yCount ns k:=by simpa using (List.getElem?_eq_some_iff.mp hd).1
      rw [List.getElem?_map,List.getElem?_range hi3] at hd
      cases hd
      obtain ⟨y6,y7,y8,y9,y10,y11,y12,hq⟩:=turn_world ns k i own acc b c d' e f g h (by omega)
      exact ⟨_,_,rfl,.inl hq,by simp; omega,_,_,_,_,_,_,_,_,rfl⟩) ⟨by simp,_,_,_,_,_,_,_,_,rfl⟩
  have ef:((List.range (yCount ns k)).map λ (j:Nat)=>D.int (j:Int)).foldl (λ acc d=>match d with | .int i=>acc++[dWd (lawWd ns k own i.toNat)] | _=>acc) []=(lawYd ns k own).map dWd:=by
    rw [List.foldl_map]
    have:=foldl_app (λ (j:Nat)=>dWd (lawWd ns k own j)) (List.range (yCount ns k)) []
    simp only [Int.toNat_natCast]
    rw [this]
    simp [lawYd]
  rw [ef] at h1
  simp [M_q9,B_q9,begin_,m_cell,e0,eR,h1,dYd]
end Lw


namespace Wl
open PySem PySem.Spec PyProof.Rows L2 Wy
def wdAt (Y:List Wd) (w:Nat):Wd:=Y.getD w ([],[])
def rowAt (Y:List Wd) (w k:Nat):List Nat:=(wdAt Y w).2.getD k []
def sat (Y:List Wd):Say->Nat->Bool
  | .nm x,w=>decide (x∈(wdAt Y w).1)
  | .neg a,w=>!sat Y a w
  | .two c a b,w=>if c=true then sat Y a w&&sat Y b w else sat Y a w||sat Y b w
  | .way c k a,w=>if c=true then (rowAt Y w k).all (sat Y a) else (rowAt Y w k).any (sat Y a)
structure YOk (Y:List Wd):Prop where
  three:∀ w∈Y,w.2.length=3
  there:∀ w∈Y,∀ r∈w.2,∀ v∈r,v < Y.length
  rise:∀ w∈Y,∀ r∈w.2,r.Pairwise (· < ·)
  names:∀ w∈Y,w.1.Sublist ["a","b","zz"]
  pos:1<=Y.length
theorem wdAt_mem {Y:List Wd} {w:Nat} (h:w < Y.length):wdAt Y w∈Y:=by
  unfold wdAt
  rw [List.getD_eq_getElem?_getD,List.getElem?_eq_getElem h]
  exact List.getElem_mem h
theorem wdAt_get {Y:List Wd} {w:Nat} (h:w < Y.length):Y[w]?=some (wdAt Y w):=by
  unfold wdAt
  rw [List.getD_eq_getElem?_getD,List.getElem?_eq_getElem h]
  rfl
theorem rowAt_there {Y:List Wd} (hY:YOk Y) {w k:Nat} (h:w < Y.length):∀ v∈rowAt Y w k,v < Y.length:=by
  intro v hv
  unfold rowAt at hv
  rw [List.getD_eq_getElem?_getD] at hv
  cases e:(wdAt Y w).2[k]? with
  | none=>rw [e] at hv; cases hv
  | some r =>
    rw [e] at hv
    exact hY.there _ (wdAt_mem h) r (List.mem_of_getElem? e) v hv
theorem ways_at {Y:List Wd} (hY:YOk Y) {w k:Nat} (h:w < Y.length) (hk:k < 3):ixD (dWays (wdAt Y w).2) (.int (k:Int))=some (dRow (rowAt Y w k)):=by
  have hl:=hY.three _ (wdAt_mem h)
  rw [show dWays (wdAt Y w).2=.tup ((wdAt Y w).2.map dRow) from rfl,ixD_tup]
  refine atI_nat ?_
  unfold rowAt
  rw [List.getElem?_map,List.getD_eq_getElem?_getD,List.getElem?_eq_getElem (by omega:k < (wdAt Y w).2.length)]
  rfl
@[simp] theorem w_not_name:(Str.ofString "not"=Str.ofString "name")=False:=eq_false (by decide)
@[simp] theorem w_and_name:(Str.ofString "and"=Str.ofString "name")=False:=eq_false (by decide)
@[simp] theorem w_and_not:(Str.ofString "and"=Str.ofString "not")=False:=eq_false (by decide)
@[simp] theorem w_or_name:(Str.ofString "or"=Str.ofString "name")=False:=eq_false (by decide)
@[simp] theorem w_or_not:(Str.ofString "or"=Str.ofString "not")=False:=eq_false (by decide)
@[simp] theorem w_or_and:(Str.ofString "or"=Str.ofString "and")=False:=eq_false (by decide)
@[simp] theorem w_all_name:(Str.ofString "all"=Str.ofString "name")=False:=eq_false (by decide)
@[simp] theorem w_all_not:(Str.ofString "all"=Str.ofString "not")=False:=eq_false (by decide)
@[simp] theorem w_all_and:(Str.ofString "all"=Str.ofString "and")=False:=eq_false (by decide)
@[simp] theorem w_all_or:(Str.ofString "all"=Str.ofString "or")=False:=eq_false (by decide)
@[simp] theorem w_all_some:(Str.ofString "all"=Str.ofString "some")=False:=eq_false (by decide)
@[simp] theorem w_some_name:(Str.ofString "some"=Str.ofString "name")=False:=eq_false (by decide)
@[simp] theorem w_some_not:(Str.ofString "some"=Str.ofString "not")=False:=eq_false (by decide)
@[simp] theorem w_some_and:(Str.ofString "some"=Str.ofString "and")=False:=eq_false (by decide)
@[simp] theorem w_some_or:(Str.ofString "some"=Str.ofString "or")=False:=eq_false (by decide)
@[simp] theorem w_some_all:(Str.ofString "some"=Str.ofString "all")=False:=eq_false (by decide)
theorem mem_names (x:Str) (nms:List Str):memA (.str x) (dNames nms)=some (.bl (decide (x∈nms))):=by
  unfold dNames
  rw [memA_tup (depDL_strs nms)]
  congr 2
  rw [Bool.eq_iff_iff]
  rw [List.any_eq_true,decide_eq_true_iff]
  constructor
  · rintro ⟨d,hd,h⟩
    obtain ⟨z,hz,rfl⟩:=List.mem_map.mp hd
    rw [eqDD_str,decide_eq_true_iff] at h
    rw [<- h]
    exact hz
  · intro h
    exact ⟨_,List.mem_map.mpr ⟨x,h,rfl⟩,by simp⟩
section
variable {x:Str} {a b:Say} {c:Bool} {k:Nat}
@[simp] theorem nm_0:ixD (dS (.nm x)) (.int 0)=some (.str "name"):=by rw [dS,ixD_tup,atI_zero]
@[simp] theorem nm_1:ixD (dS (.nm x)) (.int 1)=some (.str x):=by rw [dS,ixD_tup,atI_one]
@[simp] theorem neg_0:ixD (dS (.neg a)) (.int 0)=some (.str "not"):=by rw [dS,ixD_tup,atI_zero]
@[simp] theorem neg_1:ixD (dS (.neg a)) (.int 1)=some (dS a):=by rw [dS,ixD_tup,atI_one]
@[simp] theorem two_0:ixD (dS (.two c a b)) (.int 0)=some (.str (hd2 c)):=by rw [dS,ixD_tup,atI_zero]
@[simp] theorem two_1:ixD (dS (.two c a b)) (.int 1)=some (dS a):=by rw [dS,ixD_tup,atI_one]
@[simp] theorem two_2:ixD (dS (.two c a b)) (.int 2)=some (dS b):=by rw [dS,ixD_tup,atI_two]
@[simp] theorem way_0:ixD (dS (.way c k a)) (.int 0)=some (.str (hdw c)):=by rw [dS,ixD_tup,atI_zero]
@[simp] theorem way_1:ixD (dS (.way c k a)) (.int 1)=some (.int (k:Int)):=by rw [dS,ixD_tup,atI_one]
@[simp] theorem way_2:ixD (dS (.way c k a)) (.int 2)=some (dS a):=by rw [dS,ixD_tup,atI_two]
end
end Wl
namespace Lw
open PySem PySem.Spec PyProof.Rows L2 Wy Wl
theorem holds_turns {n:Nat} {Y:List Wd} {s:Say} {c:Bool} {k:Nat} {wv:D} (IH:∀ v,v < Y.length->M_q4 n [dYd Y,.int (v:Int),dS s]=.ok (.bl (sat Y s v))):∀ (r:List Nat) (x:Sl),(∀ v∈r,v < Y.length) ->
    ∃ y,sTurns (gName' 3) (L_q4_1 (M_q4 n)) (r.map λ (v:Nat)=>D.int (v:Int)) [.val (dYd Y),.val wv,.val (dS (.way c k s)),x] =
      if (r.all λ v=>sat Y s v == c)=true then .nx [.val (dYd Y),.val wv,.val (dS (.way c k s)),y] else .rt (.bl !c)
  | [],x,_=>⟨x,rfl⟩
  | v::r,x,h=>by
    have hv:=IH v (h v List.mem_cons_self)
    obtain ⟨y,hy⟩:=holds_turns (c:=c) (k:=k) (wv:=wv) IH r (.val (.int (v:Int))) (λ u hu=>h u (List.mem_cons_of_mem _ hu))
    refine ⟨y,?_⟩
    have hL:L_q4_1 (M_q4 n) [.val (dYd Y),.val wv,.val (dS (.way c k s)),.val (.int (v:Int))]=if (sat Y s v == c)=true then .nx [.val (dYd Y),.val wv,.val (dS (.way c k s)),.val (.int (v:Int))] else .rt (.bl !c):=by
      cases hs:sat Y s v <;> cases c <;> simp [L_q4_1,hv,hs,hdw]
    rw [List.map_cons]
    unfold sTurns
    rw [gName_eq]
    dsimp only [List.set]
    rw [hL,List.all_cons]
    by_cases hs:(sat Y s v == c)=true
    · rw [if_pos hs,hs]
      exact hy
    · rw [if_neg hs,(Bool.not_eq_true _).mp hs]
      rfl
theorem m_holds {Y:List Wd} (hY:YOk Y):∀ (n:Nat) (s:Say) (w:Nat),depS s < n->okS s=true->w < Y.length->M_q4 n [dYd Y,.int (w:Int),dS s]=.ok (.bl (sat Y s w))
  | 0,_,_,h,_,_=>absurd h (Nat.not_lt_zero _)
  | n + 1,.nm x,w,_,_,hw=>by
    simp [M_q4,B_q4,begin_,yd_at (wdAt_get hw),mem_names,sat]
  | n + 1,.neg a,w,h,ho,hw=>by
    have ih:=m_holds hY n a w (Nat.lt_of_succ_lt_succ h) ho hw
    simp [M_q4,B_q4,begin_,ih,sat]
  | n + 1,.two c a b,w,h,ho,hw=>by
    simp only [depS,okS,Bool.and_eq_true] at h ho
    have ih1:=m_holds hY n a w (by omega) ho.1 hw
    have ih2:=m_holds hY n b w (by omega) ho.2 hw
    cases c <;> cases h1:sat Y a w <;> simp [M_q4,B_q4,begin_,ih1,ih2,sat,hd2,h1]
  | n + 1,.way c k a,w,h,ho,hw=>by
    simp only [depS,okS,Bool.and_eq_true,decide_eq_true_iff] at h ho
    obtain ⟨y,hy⟩:=holds_turns (c:=c) (k:=k) (wv:=.int (w:Int)) (λ v hv=>m_holds hY n a v (by omega) ho.2 hv) (rowAt Y w k) .un (rowAt_there hY hw)
    have e1:=ways_at hY hw ho.1
    have key:((rowAt Y w k).all λ v=>sat Y a v == c)=true↔sat Y (.way c k a) w=c:=by
      cases c
      · simp [sat]
      · simp [sat]
    by_cases hh:((rowAt Y w k).all λ v=>sat Y a v == c)=true
    · rw [if_pos hh] at hy
      have e2:=key.mp hh
      cases c <;> simp [M_q4,B_q4,begin_,yd_at (wdAt_get hw),e1,hy,e2,hdw] <;> simp [hdw] at hy
    · rw [if_neg hh] at hy
      have e2:sat Y (.way c k a) w=!c:=by
        cases hq:sat Y (.way c k a) w <;> cases c <;> simp_all
      cases c <;> simp [M_q4,B_q4,begin_,yd_at (wdAt_get hw),e1,hy,e2,hdw]
end Lw

namespace Wl
open PySem PySem.Spec PyProof.Rows L2 Wy
theorem lawYd_len (ns:List Int) (k:Nat) (own:Int):(lawYd ns k own).length=yCount ns k:=by simp [lawYd]
theorem lawYd_ok (ns:List Int) (k:Nat) (own:Int):YOk (lawYd ns k own) where
  three:=λ w hw=>by
    obtain ⟨j,_,rfl⟩:=List.mem_map.mp hw
    simp [lawWd]
  there:=λ w hw r hr v hv=>by
    obtain ⟨j,_,rfl⟩:=List.mem_map.mp hw
    obtain ⟨q,_,rfl⟩:=List.mem_map.mp hr
    rw [lawYd_len]
    exact List.mem_range.mp (List.mem_filter.mp hv).1
  rise:=λ w hw r hr=>by
    obtain ⟨j,_,rfl⟩:=List.mem_map.mp hw
    obtain ⟨q,_,rfl⟩:=List.mem_map.mp hr
    exact List.Pairwise.filter _ List.pairwise_lt_range
  names:=λ w hw=>by
    obtain ⟨j,_,rfl⟩:=List.mem_map.mp hw
    exact List.Sublist.map (·.2) (List.filter_sublist (l:=([(0,"a"),(1,"b"),(2,"zz")]:List (Nat×Str))))
  pos:=by rw [lawYd_len]; exact (yCount_le ns k).1
theorem rise_len:∀ {l:List Nat} {m n:Nat},l.Pairwise (· < ·)->(∀ v∈l,m<=v/\v < n)->l.length<=n - m
  | [],_,_,_,_=>Nat.zero_le _
  | a::l,m,n,h,hb=>by
    rw [List.pairwise_cons] at h
    have ha:=hb a List.mem_cons_self
    have:=rise_len (m:=a + 1) (n:=n) h.2 λ v hv=>⟨h.1 v hv,(hb v (List.mem_cons_of_mem _ hv)).2⟩
    rw [List.length_cons]
    omega
theorem rowAt_len {Y:List Wd} (hY:YOk Y) {w k:Nat} (h:w < Y.length):(rowAt Y w k).length<=Y.length:=by
  have ht:=rowAt_there hY h (k:=k)
  have hr:(rowAt Y w k).Pairwise (· < ·):=by
    unfold rowAt
    rw [List.getD_eq_getElem?_getD]
    cases e:(wdAt Y w).2[k]? with
    | none=>exact List.Pairwise.nil
    | some r=>exact hY.rise _ (wdAt_mem h) r (List.mem_of_getElem? e)
  exact Nat.le_trans (rise_len hr λ v hv=>⟨Nat.zero_le _,ht v hv⟩) (Nat.sub_le _ _)
theorem turns_keep {g:D->Ga->Option Ga} {T:Ga->RS} (P:Ga->Prop) (ds:List D) (Γ:Ga) (h:∀ d Γ,d∈ds->P Γ->∃ Γ1 Γ',g d Γ=some Γ1/\(T Γ1=.nx Γ'∨T Γ1=.ct Γ')/\P Γ') (h0:P Γ):∃ Γ',sTurns g T ds Γ=.nx Γ'/\P Γ' :=
  turns_st (λ (_:Unit) Γ=>P Γ) (λ _ _=>()) ds () Γ (λ _ d Γ hd hp=>h d Γ hd hp) h0
theorem cut_int {ns:List Int} {l h:Option Int} {d:D} (hd:d∈cut (ns.map D.int) l h):∃ c:Int,d=.int c:=by
  unfold cut at hd
  have:=List.mem_of_mem_drop (List.mem_of_mem_take hd)
  obtain ⟨c,_,rfl⟩:=List.mem_map.mp this
  exact ⟨c,rfl⟩
end Wl


namespace Wl
open PySem PySem.Spec PyProof.Rows L2 Wy
end Wl


namespace Wl
open PySem PySem.Spec PyProof.Rows L2 Wy
end Wl


namespace Wl
open PySem PySem.Spec PyProof.Rows L2 Wy
end Wl


namespace Wl
open PySem PySem.Spec PyProof.Rows L2 Wy
end Wl


namespace Wy
open PySem PySem.Spec PyProof.Rows L2
section
variable {K:PySem.W.Frag} {H₀ G₀ H G H' G':Hp} {Γ:Ga} {σ:L2.St}
end
section
variable {X:Cx} {W:XP} {e:Expr} {es:List Expr} {f:Ga->R D} {fm:Ga->R (D×Ga)} {fl:Ga->R (List D)} {fa:Ga->R (List D×Ga)} {pos pos' apos cpos p:Pos} {x:Str}
end
section
variable {X:Cx} {W:XP} {e c:Expr} {fm:Ga->R (D×Ga)} {pos pos' apos cpos:Pos} {x:Str}
end
inductive RM where
  | nx (Γ:Ga) | rt (d:D) (Γ:Ga) | ex (c:Str) (Γ:Ga) | no
section
variable {X:Cx} {W:XP} {st:Stmt} {rest sa sb:List Stmt} {T U:Ga->RM} {S:Ga->RS} {e c:Expr} {fm:Ga->R (D×Ga)} {g:Ga->R Bool} {pos:Pos}
end
def SlL (K:PySem.W.Frag) (H₀ H G:Hp) (Γ:Ga) (σ:L2.St):Prop:=Γ.length=σ.length/\∀ (i:Nat) x,Γ[i]?=some x->SlOk K H₀ H G x σ[i]?
section
variable {K:PySem.W.Frag} {H₀ H G:Hp}
theorem SlL.append {Γ Γ':Ga} {σ σ':L2.St} (a:SlL K H₀ H G Γ σ) (b:SlL K H₀ H G Γ' σ'):SlL K H₀ H G (Γ++Γ') (σ++σ'):=by
  refine ⟨by rw [List.length_append,List.length_append,a.1,b.1],λ i x h=>?_⟩
  by_cases hi:i < Γ.length
  · rw [List.getElem?_append_left hi] at h
    rw [List.getElem?_append_left (by rw [<- a.1]; exact hi)]
    exact a.2 i x h
  · rw [List.getElem?_append_right (Nat.not_lt.mp hi)] at h
    rw [List.getElem?_append_right (by rw [<- a.1]; exact Nat.not_lt.mp hi),<- a.1]
    exact b.2 _ x h
theorem SlL.vals {ds:List D} {us:List V} (l:DenL K G ds us):SlL K H₀ H G (ds.map Sl.val) (us.map some):=by
  refine ⟨by rw [List.length_map,List.length_map,l.length],λ i x h=>?_⟩
  rw [List.getElem?_map] at h
  obtain ⟨d,e1,e2⟩:=Option.map_eq_some_iff.mp h
  subst e2
  obtain ⟨v,e3,e4⟩:=l.get e1
  exact ⟨v,by rw [List.getElem?_map,e3]; rfl,e4⟩
theorem SlL.uns (n:Nat):SlL K H₀ H G (List.replicate n .un) (List.replicate n none):=by
  refine ⟨by rw [List.length_replicate,List.length_replicate],λ i x h=>?_⟩
  obtain ⟨_,e⟩:=List.getElem?_eq_some_iff.mp h
  rw [List.getElem_replicate] at e
  subst e
  trivial
theorem SlL.one {x:Sl} {o:Option V} (h:SlOk K H₀ H G x (some o)):SlL K H₀ H G [x] [o]:=by
  refine ⟨rfl,λ i y e=>?_⟩
  cases i with
  | zero=>cases e; exact h
  | succ i=>cases e
end
section
variable {P:Program} {w:World} {K:PySem.W.Frag} {mg:Str->Option Value} {base:Heap}
end
end Wy


namespace Wy
open PySem PySem.Spec PyProof.Rows L2
section
variable {P:Program} {w:World} {K:PySem.W.Frag} {mg:Str->Option Value} {base:Heap}
end
section
variable {X:Cx} {W:XP} {e:Expr} {es:List Expr} {f:Ga->R D} {fl:Ga->R (List D)} {pos p pn:Pos} {x y:Str}
end
end Wy


namespace Wy
open PySem PySem.Spec PyProof.Rows L2
section
variable {X:Cx} {W:XP} {tg e:Expr} {fs:Ga->R (Bool×List D)} {f:Ga->R D} {fl:Ga->R (List D)} {pos p:Pos}
end
end Wy


namespace Wy
open PySem PySem.Spec PyProof.Rows L2
section
variable {K:PySem.W.Frag} {H₀ G₀ H G:Hp} {Γ:Ga} {σ:L2.St}
end
section
variable {X:Cx} {pins:List (Addr×Obj)} {σ:L2.St} {H H₀ G₀ G:Hp} {Γ:Ga} {s:Shared} {scope:Scope} {cl:List (Str×Addr)} {x:Str} {px pos:Pos} {fp:List Addr} {elt iter:Expr} {f:Ga->R (D×Ga)}
end
section
variable {X:Cx} {scope:Scope} {cl:List (Str×Addr)} {x y:Str} {px py pos spos:Pos} {elt iter:Expr} {f:Ga->R (D×Ga)} {fl:Ga->R (List D)}
end
end Wy


namespace PySem.SeqAt
open PySem PySem.AutoSeq1 PySem.MeetsSeq PySem.MeetsSeq2 PySem.MeetsSeq3
end PySem.SeqAt
namespace Wy
open PySem PySem.Spec PyProof.Rows L2
section
variable {X:Cx}
variable {W:XP} {o e:Expr} {fs:Ga->R (Bool×List D)} {fe:Ga->R D} {apos cpos:Pos}
end
end Wy


namespace Wy
open PySem PySem.Spec PyProof.Rows L2
section
variable {X:Cx} {W:XP} {e:Expr} {fe:Ga->R D} {x:Str} {kvs:List (Str×Str)} {pn pos:Pos}
end
end Wy


namespace Wy
open PySem PySem.Spec PyProof.Rows L2
section
variable {prog:Program} {w:World} {A:Around} {R:Result->Shared->Prop} {I:Addr} {fp wr:List Addr} {n:Nat} {P:Nat->Value->Prop} {St:Nat->Heap->Prop}
end
section
variable {prog:Program} {w:World} {A:Around} {E:Value->Shared->Prop} {s:Shared}
end
section
variable {X:Cx} {W:XP} {e e2:Expr} {fs:Ga->R (Bool×List D)} {fd:Ga->R D} {p pos kpos:Pos}
end
end Wy


namespace Wy
open PySem PySem.Spec PyProof.Rows L2
section
variable {prog:Program} {w:World} {A:Around} {R:Result->Shared->Prop} {s:Shared}
end
section
variable {P:Program} {w:World} {K:PySem.W.Frag} {mg:Str->Option Value} {base:Heap}
end
end Wy


namespace Wy
open PySem PySem.Spec PyProof.Rows L2
section
variable {X:Cx} {W:XP} {pins:List (Addr×Obj)} {σ:L2.St} {H:Hp} {s:Shared}
end
end Wy

namespace Wy
open PySem PySem.Spec PyProof.Rows L2
section
variable {X:Cx} {W:XP} {pins:List (Addr×Obj)} {σ:L2.St} {H G:Hp} {s:Shared}
end
end Wy


namespace Wy
open PySem PySem.Spec PyProof.Rows L2
def blkN2 (x y:Str) (N:List Str):List Str:=x::y::accN N.length::N
def blk2 (X:Cx) (scope:Scope) (cl:List (Str×Addr)) (C:Addr) (x y:Str) (s₀:Shared) (H₀:Hp) (ex:List Addr):Cx :=
  { X with N:=blkN2 x y X.N,s₀:=s₀,H₀:=H₀,env:=compEnvC scope cl C X.env,outer:=X.stack,stack:=X.stack,ex:=ex,fn:=λ _=>false,pn:=[],xe:=λ _ _=>False }
structure BlkOk2 (X:Cx) (scope:Scope) (cl:List (Str×Addr)) (x y:Str):Prop where
  kind:scope.kind=.function
  cells:∀ y∈scope.names,y.2≠.cell
  clos:closureFor scope X.env=pure cl
  names:∀ y∈scope.names,y.2=.local->scope.names.lookup y.1=some .local
  var:scope.names.lookup x=some .local
  var2:scope.names.lookup y=some .local
  nd:(blkN2 x y X.N).Nodup
  cl1:∀ y c,cl.lookup y=some c->X.env.cells.lookup y=some c
  cl2:∀ y,((relabel scope X.env).names.lookup y=some .cell∨(relabel scope X.env).names.lookup y=some .free)->∃ c,cl.lookup y=some c
  acc:¬ Vis (relabel scope X.env) (accN X.N.length)
  vis:∀ z∈X.N,Vis (relabel scope X.env) z->((relabel scope X.env).names.lookup z=some .cell∨(relabel scope X.env).names.lookup z=some .free)/\(X.env.kindOf z=some .cell∨X.env.kindOf z=some .free)
section
variable {X:Cx} {pins:List (Addr×Obj)} {σ:L2.St} {H:Hp} {s:Shared} {scope:Scope} {cl:List (Str×Addr)} {x x2:Str} {fp:List Addr}
theorem blk_ok2 (B:BlkOk2 X scope cl x x2) (I:Inv X pins σ H s) (hf:∀ b∈fp,FpOk X pins H b) (hfp:∀ b∈fp,b < s.heap.objs.size) {C:Addr} (hC:s.heap.objs.size<=C):(blk2 X scope cl C x x2 s H fp).Ok where
  mod:=I.ok.mod
  kind:=B.kind
  glob:=I.ok.glob
  blt:=I.ok.blt
  above:=hC
  inj:=λ y z c h1 h2=>I.ok.inj y z c (B.cl1 y c h1) (B.cl1 z c h2)
  has:=λ y h=>B.cl2 y h
  cab:=λ _ _ h=>nomatch h
  hd:=I.ok.hd
  frames:=I.ok.frames
  stk:=.inl rfl
  exf:=λ b hb=>⟨Nat.ne_of_lt (Nat.lt_of_lt_of_le (hfp b hb) hC),λ y c h=>(hf b hb).2.2.2.2.1 y c (B.cl1 y c h)⟩
  bs:=I.bs
  bsz:=Nat.le_trans I.ok.bsz I.sz
  noex:=λ b o e hb=>by
    rcases (hf b hb).2.2.2.1 with z | z
    · exact I.ok.noex b o e z
    · exact absurd (Nat.lt_of_lt_of_le (Heap.lt_size e) (Nat.le_trans I.ok.bsz z)) (Nat.lt_irrefl _)
  exfs:=λ b hb z=>by
    rcases List.mem_cons.mp (I.stkSub b z) with e | e
    · exact (hf b hb).2.1 e
    · exact (hf b hb).2.2.1 e
  funs:=I.stack
  frf:=I.stkFree
theorem blk_inv2 (B:BlkOk2 X scope cl x x2) (I:Inv X pins σ H s) (hf:∀ b∈fp,FpOk X pins H b) (hfp:∀ b∈fp,b < s.heap.objs.size) {C Dd:Addr} {h1:Heap} {tk:Nat} {m:Str->Option Value}
    (hC:s.heap.objs.size<=C) (hD:s.heap.objs.size<=Dd) (hDC:Dd≠C) (hn:h1.Ns C m) (hd:h1.get? Dd=some { cls:=.type "list",data:=.seq #[] 0 }) (k:∀ b o,s.heap.get? b=some o->h1.get? b=some o) :
    Inv (blk2 X scope cl C x x2 s H fp) [] (none::none::some (V.ref Dd)::σ) (upd H Dd (.lst [])) { s with heap:=h1,toks:=tk } where
  ok:=blk_ok2 B I hf hfp hC
  os:=rfl
  bare:=I.bare
  base:=Un.laid k hD (I.hok.fresh hD)
  loc:=by
    refine ⟨m,hn,λ i y v e1 e2 e3=>?_⟩
    match i,e1,e2 with
    | 0,e1,e2=>cases e2
    | 1,e1,e2=>cases e2
    | 2,e1,e2 =>
      have e:y=accN X.N.length:=by
        have:=e1
        simp only [blk2,blkN2,List.getElem?_cons_succ,List.getElem?_cons_zero] at this
        exact (Option.some.inj this).symm
      subst e
      exact absurd e3 B.acc
    | i + 3,e1,e2 =>
      have hz:X.N[i]?=some y:=e1
      have e2':σ[i]?=some (some v):=e2
      have hmem:y∈X.N:=List.mem_of_getElem? hz
      obtain ⟨hk1,hk2⟩:=B.vis y hmem e3
      obtain ⟨m0,_,hl⟩:=I.loc
      obtain ⟨u,r,l⟩:=hl i y v hz e2' (hk2.elim (λ q=>.inr (.inl q)) λ q=>.inr (.inr q))
      refine ⟨u,r,.inr ⟨hk1,?_⟩⟩
      rcases l with ⟨q,_⟩ | ⟨_,c,hc,hcell⟩
      · rcases hk2 with q' | q' <;> (rw [q] at q'; cases q')
      · obtain ⟨c',hc'⟩:=B.cl2 y hk1
        have:=B.cl1 y c' hc'
        rw [hc] at this
        cases this
        obtain ⟨o,ho,hod⟩:=hcell
        exact ⟨c,hc',o,k _ _ ho,hod⟩
  cell:=λ y c h=>by
    obtain ⟨v,o,ho,hod⟩:=I.cell y c (B.cl1 y c h)
    exact ⟨v,o,k _ _ ho,hod⟩
  free:=by
    show upd H Dd (.lst []) C=none
    rw [upd_ne (Ne.symm hDC)]
    exact I.hok.fresh hC
  freeC:=λ y c h=>by
    obtain ⟨v,o,ho,hod⟩:=I.cell y c (B.cl1 y c h)
    show upd H Dd (.lst []) c=none
    rw [upd_ne (λ e=>absurd (Nat.lt_of_lt_of_le (Heap.lt_size ho) (by rw [e]; exact hD)) (Nat.lt_irrefl _))]
    exact I.freeC y c (B.cl1 y c h)
  pin:=λ p hp=>nomatch hp
  hok:=I.hok.laid k hD ⟨Nat.zero_le _,[],0,.nil,hd⟩
  len:=by
    show (none::none::some (V.ref Dd)::σ).length=(blkN2 x x2 X.N).length
    simp [blkN2,I.len]
end
theorem ofO_ok {α:Type} {o:Option α} {a:α} (h:R.ofO o=.ok a):o=some a:=by cases o with
  | none=>cases h
  | some b=>cases h; rfl
def pairD:D->Option (D×D)
  | .tup [a,b]=>some (a,b)
  | _=>none
theorem pairD_eq {d:D} {p:D×D} (h:pairD d=some p):d=.tup [p.1,p.2]:=by
  unfold pairD at h
  split at h
  · cases h; rfl
  · cases h
def compR2 (c:Ga->R Bool) (f:Ga->R D) (Γ:Ga):List D->R (List D)
  | []=>.ok []
  | d::ds=>(R.ofO (pairD d)).bind λ p=>(c (.val p.1::.val p.2::.un::Γ)).calm.bind λ k=>match k with
    | true=>(f (.val p.1::.val p.2::.un::Γ)).calm.bind λ y=>(compR2 c f Γ ds).bind λ r=>.ok (y::r)
    | false=>compR2 c f Γ ds
theorem compR2_calm (c:Ga->R Bool) (f:Ga->R D) (Γ:Ga):∀ ds x,compR2 c f Γ ds≠.ex x
  | [],x,h=>by cases h
  | d::ds,x,h=>by
    unfold compR2 at h
    cases h0:pairD d with
    | none=>rw [h0] at h; cases h
    | some p =>
    rw [h0] at h
    have h:(c (.val p.1::.val p.2::.un::Γ)).calm.bind (λ k=>match k with
      | true=>(f (.val p.1::.val p.2::.un::Γ)).calm.bind λ y=>(compR2 c f Γ ds).bind λ r=>.ok (y::r)
      | false=>compR2 c f Γ ds)=.ex x:=h
    cases h1:c (.val p.1::.val p.2::.un::Γ) with
    | ok k =>
      rw [h1] at h
      cases k with
      | false=>exact compR2_calm c f Γ ds x h
      | true =>
        simp only [calm_of_ok,R.bind_ok] at h
        cases h2:f (.val p.1::.val p.2::.un::Γ) with
        | ok y =>
          rw [h2] at h
          simp only [calm_of_ok,R.bind_ok] at h
          cases h3:compR2 c f Γ ds with
          | ok r=>rw [h3] at h; cases h
          | ex z=>exact compR2_calm c f Γ ds z h3
          | no=>rw [h3] at h; cases h
        | ex z=>rw [h2] at h; cases h
        | no=>rw [h2] at h; cases h
    | ex z=>rw [h1] at h; cases h
    | no=>rw [h1] at h; cases h
section
variable {X:Cx} {pins:List (Addr×Obj)} {σ:L2.St} {H H₀ G₀ G:Hp} {Γ:Ga} {s:Shared} {scope:Scope} {cl:List (Str×Addr)} {x x2:Str} {px px2 pos tpos:Pos} {tk:Nat} {fp:List Addr} {elt iter:Expr} {ifs:List Expr} {c:Ga->R Bool} {f:Ga->R D}
theorem comp_core2 {J:It} {it:Addr} {tn:Nat->Heap->Prop} {ds outs:List D} {E:Value->Shared->Prop} (B:BlkOk2 X scope cl x x2) (hcalm:X.calm=true) (I:Inv X pins σ H s) (R:Rep X.K H₀ G₀ Γ σ H G)
    (T:Turn X.prog X.w X.K (.Tuple [.Name x px,.Name x2 px2] tk tpos) J fp it tn) (st:tn 0 s.heap) (hf:∀ b∈fp,FpOk X pins H b) (Y:Yields X.K J G ds)
    (hT:∀ C,TsD (blk2 X scope cl C x x2 s H fp) ifs c) (hE:∀ C,EvD (blk2 X scope cl C x x2 s H fp) XP0 elt f) (hc:compR2 c f Γ ds=.ok outs) (hlen:ds.length < 16000000)
    {RR:Value->Addr->Result->Shared->Prop}
    (hRR:∀ Dd C s' H' G' vs m,s'.os=s.os->AllBare s'.gens->Un (frs X.stack) fp H H' s.heap s'.heap->HOk X.prog X.w H' s'.heap->s.heap.objs.size<=C->H' C=none->s'.heap.Ns C m ->
      Ext H G H' G'->H Dd=none->H' Dd=some (.lst vs)->G' Dd=none->DenL X.K G' outs vs->RR (.ref Dd) C (.ok .next) s') :
    wpAny (model X.prog X.w) X.A (newList []) (λ acc s₃=>wpAny (model X.prog X.w) X.A (newFunctionEnv scope X.env.globals cl [] X.env.qual none .none (some X.env)) (λ cenv s₄ =>
      codeAny (model X.prog X.w) X.A (.compStart (.ListComp elt [⟨.Tuple [.Name x px,.Name x2 px2] tk tpos,iter,ifs,0⟩] scope pos) 0 (.ref it) acc { cenv with scope:=relabel scope X.env }) (RR acc cenv.locals) s₄) E s₃) E s:=by
  have hfp:∀ b∈fp,b < s.heap.objs.size:=λ b hb=>by
    obtain ⟨o,e,_⟩:=T.obj 0 _ st b hb
    exact Heap.lt_size e
  refine wpAny_newObj_type (wpAny_newFunctionEnv B.cells (by intro y hy; simp at hy) (λ h₁ hns₁ hsb₁=>?_) B.kind)
  dsimp only at hns₁ hsb₁ ⊢
  generalize hH2:s.heap.push { cls:=.type "list",dict:=none,data:=.seq ([]:List Value).toArray }=H2 at hns₁ hsb₁ ⊢
  have hC:H2.objs.size=s.heap.objs.size + 1:=by rw [<- hH2,Heap.size_push]
  have hDC:s.heap.objs.size≠H2.objs.size:=by rw [hC]; exact Nat.ne_of_lt (Nat.lt_succ_self _)
  have hCle:s.heap.objs.size<=H2.objs.size:=by rw [hC]; exact Nat.le_succ _
  have old:∀ b o,s.heap.get? b=some o->h₁.get? b=some o:=λ b o e=>hsb₁.extBut b o (by rw [hC]; exact Nat.ne_of_lt (Nat.lt_succ_of_lt (Heap.lt_size e))) (Heap.get?_push_of_some _ (hH2 ▸ Heap.get?_push_of_some _ e))
  have hacc:h₁.get? s.heap.objs.size=some { cls:=.type "list",data:=.seq #[] 0 }:=hsb₁.extBut _ _ hDC (Heap.get?_push_of_some _ (hH2 ▸ Heap.get?_push_size _ rfl))
  have I0:=blk_inv2 (tk:=s.toks + ([]:List (Str×Value)).length) B I hf hfp hCle (Nat.le_refl _) hDC hns₁ hacc old
  have hp:H s.heap.objs.size=none:=I.fresh
  have E0:Ext H G (upd H s.heap.objs.size (.lst [])) G:=.own R.gh hp _
  have R0:Rep X.K H₀ G₀ (.un::.un::.own []::Γ) (none::none::some (V.ref s.heap.objs.size)::σ) (upd H s.heap.objs.size (.lst [])) G:=by
    have r1:=((R.after E0).consUn (some (V.ref s.heap.objs.size)))
    have r2:=r1.setO 0 (xs:=[]) (a:=s.heap.objs.size) (vs:=[]) upd_same (R.ex.hh.free hp) (R.gh.free hp) (denL_nil.mpr rfl) (λ j ys hj hy hm hs=>?_)
    · exact (r2.consUn none).consUn none
    · cases j with
      | zero=>exact hj rfl
      | succ j =>
        obtain ⟨a,us,s1,s2,_⟩:=R.at (i:=j) (x:=ys) (by simpa using hy) hm
        have hs':σ[j]?=some (some (V.ref s.heap.objs.size)):=by simpa using hs
        rw [hs'] at s1
        cases s1
        rw [hp] at s2
        cases s2
  generalize hX:blk2 X scope cl H2.objs.size x x2 s H fp=X' at I0
  have eK:X'.K=X.K:=by rw [<- hX]; rfl
  have eP:X'.prog=X.prog:=by rw [<- hX]; rfl
  have eW:X'.w=X.w:=by rw [<- hX]; rfl
  have eA:X'.A=X.A:=by rw [<- hX]; rfl
  have eE:X'.env=compEnvC scope cl H2.objs.size X.env:=by rw [<- hX]; rfl
  have eX:X'.xe=λ _ _=>False:=by rw [<- hX]; rfl
  have eN:X'.N=blkN2 x x2 X.N:=by rw [<- hX]; rfl
  have eF:X'.fs=frs X.stack:=by rw [<- hX]; rfl
  have eCa:X'.calm=true:=by rw [<- hX]; exact hcalm
  have hT':TsD X' ifs c:=hX ▸ hT _
  have hE':EvD X' XP0 elt f:=hX ▸ hE _
  have fpok:∀ {H':Hp},(∀ b∈fp,H' b=none)->∀ b∈fp,FpOk X' [] H' b:=λ hn b hb=>by
    refine ⟨hn b hb,?_,?_,.inl (by rw [<- hX]; exact hb),?_,λ p hp=>by rw [<- hX] at hp; exact nomatch hp⟩
    · rw [<- hX]; exact Nat.ne_of_lt (Nat.lt_of_lt_of_le (hfp b hb) hCle)
    · rw [eF]
      intro z
      rcases List.mem_cons.mp (I.stkSub b z) with e | e
      · exact (hf b hb).2.1 e
      · exact (hf b hb).2.2.1 e
    · rw [eE]; exact λ y c' h=>(hf b hb).2.2.2.2.1 y c' (B.cl1 y c' h)
  obtain ⟨te,pe,qe⟩:=hE'
  have pg:PG X' (.Tuple [.Name x px,.Name x2 px2] tk tpos) (gTup X'.K 2 (gCons (gName 0) (gCons (gName 1) gNil))):=pg_tup eCa (pgs_cons (pg_name (by rw [eN]; exact B.nd) (by rw [eN]; rfl) (by rw [eE]; exact .inl (lookup_relabel_local B.var)) (by rw [eE]; exact .inr (lookup_relabel_local B.var)))
    (pgs_cons (pg_name (by rw [eN]; exact B.nd) (by rw [eN]; rfl) (by rw [eE]; exact .inl (lookup_relabel_local B.var2)) (by rw [eE]; exact .inr (lookup_relabel_local B.var2))) pgs_nil))
  have loop:∀ s₃:Shared,s₃={ s with heap:=h₁,toks:=s.toks + ([]:List (Str×Value)).length } ->
      codeAny (model X.prog X.w) X.A (.compLoop (.ListComp elt [⟨.Tuple [.Name x px,.Name x2 px2] tk tpos,iter,ifs,0⟩] scope pos) 0 (.ref it) (.ref s.heap.objs.size) (compEnvC scope cl H2.objs.size X.env)) (RR (.ref s.heap.objs.size) H2.objs.size) s₃:=by
    rintro s₃ rfl
    refine compLoop_own (λ n s'=>∃ (k:Nat) (sl sl2:Sl) (o o2:Option V) (H' G':Hp) (dn rs:List D),Inv X' [] (o::o2::some (V.ref s.heap.objs.size)::σ) H' s'/\tn k s'.heap/\(∀ b∈fp,H' b=none) /\
      Rep X.K H₀ G₀ (sl::sl2::.own dn::Γ) (o::o2::some (V.ref s.heap.objs.size)::σ) H' G'/\Ext H G H' G'/\compR2 c f Γ (ds.drop k)=.ok rs/\dn++rs=outs/\dn.length<=k/\k<=ds.length/\n + k=ds.length) ?_ ds.length
      ⟨0,.un,.un,none,none,_,G,[],outs,I0,T.keep _ _ _ st (λ b hb o e=>old b o e),λ b hb=>by
        rw [upd_ne (Nat.ne_of_lt (hfp b hb))]; exact (hf b hb).1,R0,E0,hc,rfl,Nat.zero_le _,Nat.zero_le _,rfl⟩
    rintro n s' ⟨k,sl,sl2,o,o2,H',G',dn,rs,I',st',fr',R',E',hc',ho,hdn,hkl,hn⟩
    have Yk:=Y k H' G' E'.gg E'.gh
    by_cases hk:k < ds.length
    · obtain ⟨d,hd,hdr⟩:=drop_at hk
      obtain ⟨go,yl⟩:=Yk.1 d hd
      rw [hdr] at hc'
      unfold compR2 at hc'
      obtain ⟨pr,epr,hc2⟩:=bind_ok' hc'
      clear hc'
      have epr:=pairD_eq (ofO_ok epr)
      subst epr
      have hc':=hc2
      clear hc2
      have it1:=T.item X' eP eW eK eCa k [] s' _ H' (λ _ _=>False) I' (fpok fr') st' go
      rw [eA] at it1
      refine wpAny_mono it1 (λ r s1 ⟨u,hr,h4⟩=>?_) λ _ _ z=>z
      subst hr
      refine wpAny_mono h4 (λ _ s5 ⟨xv,H5,I5,r5,y5,st5,fr5⟩=>?_) λ _ _ z=>z
      obtain ⟨G5,E5,d5⟩:=yl xv H5 y5
      have I5':=I5.pinned (fpok fr5) (T.obj _ _ st5)
      have R5:=R'.after E5
      obtain ⟨ta,tvs,q5,sq5,l5⟩:=den_tup.mp d5
      obtain ⟨v1,r1,e51,l51,l5⟩:=denL_cons.mp l5
      obtain ⟨v2,r2,e52,l52,l5⟩:=denL_cons.mp l5
      cases denL_nil.mp l5
      subst e52 e51
      have asg:=pg _ s5 _ H5 xv u (λ σ' H'=>σ'=some v1::some v2::some (V.ref s.heap.objs.size)::σ/\H'=H5) I5' r5 ⟨ta,_,q5,by rw [eK]; exact Same.seqT R5.gh sq5,rfl,v1,_,rfl,v2,[],rfl,rfl,rfl,rfl⟩
      rw [eP,eW,eA,eE,eX] at asg
      refine wpAny_mono asg (λ _ s6 ⟨σ6,H6,I6,q6,q6'⟩=>?_) λ _ _ z=>z
      subst q6 q6'
      have R6:Rep X.K H₀ G₀ (.val pr.1::.val pr.2::.own dn::Γ) (some v1::some v2::some (V.ref s.heap.objs.size)::σ) H6 G5:=(R5.setV 0 l51).setV 1 l52
      have R6u:Rep X'.K H₀ G₀ (.val pr.1::.val pr.2::.un::Γ) (some v1::some v2::some (V.ref s.heap.objs.size)::σ) H6 G5:=by
        rw [eK]
        refine R6.weak rfl λ i y h=>?_
        match i,h with
        | 0,h=>exact .inr h
        | 1,h=>exact .inr h
        | 2,h=>cases h; exact .inl rfl
        | i + 3,h=>exact .inr h
      obtain ⟨kb,ec,hc'⟩:=bind_ok' hc'
      have ec:=calm_ok ec
      have tst:=hT' _ s6 _ H6 _ _ _ _ _ I6 R6u ec
      rw [eP,eW,eA,eE,eX] at tst
      refine wpAny_mono tst (λ ok s7 ⟨hok,H7,G7,I7,E7⟩=>?_) λ _ _ z=>z
      subst hok
      have R7:=R6.after E7
      have back:∀ {s8:Shared} {H8:Hp} {G8:Hp} {dn' rs':List D},Inv X' (([]:List (Addr×Obj))++pinsAt fp s5.heap) (some v1::some v2::some (V.ref s.heap.objs.size)::σ) H8 s8->Rep X.K H₀ G₀ (.val pr.1::.val pr.2::.own dn'::Γ) (some v1::some v2::some (V.ref s.heap.objs.size)::σ) H8 G8->Ext H G H8 G8 ->
          compR2 c f Γ (ds.drop (k + 1))=.ok rs'->dn'++rs'=outs->dn'.length<=k + 1->∃ m,m < n/\∃ (k:Nat) (sl sl2:Sl) (o o2:Option V) (H' G':Hp) (dn rs:List D),Inv X' [] (o::o2::some (V.ref s.heap.objs.size)::σ) H' s8/\tn k s8.heap/\(∀ b∈fp,H' b=none) /\
            Rep X.K H₀ G₀ (sl::sl2::.own dn::Γ) (o::o2::some (V.ref s.heap.objs.size)::σ) H' G'/\Ext H G H' G'/\compR2 c f Γ (ds.drop k)=.ok rs/\dn++rs=outs/\dn.length<=k/\k<=ds.length/\m + k=ds.length:=λ {s8 H8 G8 dn' rs'} I8 R8 E8 c8 o8 l8=>by
        refine ⟨n - 1,by omega,k + 1,_,_,_,_,H8,G8,dn',rs',I8.unpinned,T.keep _ _ _ st5 λ b hb o e=>(I8.pin (b,o) (List.mem_append_right _ (List.mem_append_right _ (mem_pinsAt hb e)))).1,λ b hb=>?_,R8,E8,c8,o8,l8,by omega,by omega⟩
        obtain ⟨o,e,_⟩:=T.obj _ _ st5 b hb
        exact (I8.pin (b,o) (List.mem_append_right _ (List.mem_append_right _ (mem_pinsAt hb e)))).2.1
      have E57:Ext H G H7 G7:=E'.trans (E5.trans E7)
      cases ok with
      | false =>
        rw [if_neg Bool.false_ne_true]
        exact back I7 R7 E57 hc' ho (by omega)
      | true =>
        rw [if_pos rfl]
        obtain ⟨y,ey,hc'⟩:=bind_ok' hc'
        have ey:=calm_ok ey
        obtain ⟨r',er,hc'⟩:=bind_ok' hc'
        cases hc'
        have R7u:=R6u.after E7
        have ev:=pe _ s7 _ H7 (λ v H8=>∃ G8,Ext H7 G7 H8 G8/\Den X'.K G8 y v) I7 (qe _ _ _ _ _ _ R7u _ (by rw [ey]; exact λ v H8 G8 E8 d8=>⟨G8,E8,d8⟩))
        rw [eP,eW,eA,eE,eX] at ev
        refine wpAny_mono ev (λ yv s8 ⟨v8,H8,I8,r8,G8,E8,d8⟩=>?_) λ _ _ z=>z
        rw [eK] at d8
        have R8:=R7.after E8
        obtain ⟨a,vs,q1,q2,q3,q4,q5⟩:=R8.ow 2 dn rfl
        cases q1
        have ap:=mt_append (X:=X') _ s8 _ H8 (.ref s.heap.objs.size) [v8] _ _ (λ v H9=>v=.non/\H9=upd H8 s.heap.objs.size (.lst (vs++[v8]))) I8 rfl (.cons r8 .nil) ⟨_,vs,v8,rfl,rfl,q2,by rw [<- q5.length]; exact lt24 (by omega),rfl,rfl⟩
        rw [eP,eW,eA,eX] at ap
        refine wpAny_mono ap (λ _ s9 ⟨_,H9,I9,_,_,q9⟩=>?_) λ _ _ z=>z
        subst q9
        have tbl:Tbs H (upd H8 s.heap.objs.size (.lst (vs++[v8]))) G8:=λ b ps q=>by
          obtain ⟨ps',h1,h2⟩:=(E57.trans E8).tb b ps q
          exact ⟨ps',by rw [upd_ne (λ z=>by rw [z,hp] at q; cases q)]; exact h1,h2⟩
        refine back I9 (R8.mut (i:=2) rfl rfl (q5.append (.one d8))) ⟨(E57.trans E8).gg,λ b o q=>?_,⟨λ b o q n=>?_,λ b ps q=>let ⟨ps',h,_⟩:=tbl b ps q; ⟨ps',h⟩⟩,(E57.trans E8).fr,tbl⟩ er (by rw [List.append_assoc]; exact ho) (by rw [List.length_append,List.length_singleton]; omega)
        · rw [upd_ne (λ z=>by rw [z,q4] at q; cases q)]; exact E8.gh b o q
        · rw [upd_ne (λ z=>by rw [z,hp] at q; cases q)]; exact (E57.trans E8).hh.nt b o q n
    · have z:ds.drop k=[]:=List.drop_eq_nil_of_le (by omega)
      rw [z] at hc'
      cases hc'
      rw [List.append_nil] at ho
      subst ho
      have dn1:=T.done X' eP eW eK eCa k [] s' _ H' (λ _ _=>False) I' (fpok fr') st' (Yk.2 (by omega))
      rw [eA] at dn1
      refine wpAny_mono dn1 (λ r s1 ⟨hr,I1⟩=>?_) λ _ _ z=>z
      subst hr
      obtain ⟨a,vs,q1,q2,q3,q4,q5⟩:=R'.ow 2 dn rfl
      cases q1
      obtain ⟨m,hm,_⟩:=I1.loc
      have base:=I1.base
      rw [eF] at base
      refine hRR s.heap.objs.size H2.objs.size s1 H' G' vs m ?_ I1.bare ?_ ?_ hCle ?_ ?_ E' hp q2 q4 q5
      · have:=I1.os; rw [<- hX] at this; exact this
      · rw [<- hX] at base; exact base
      · have:=I1.hok; rw [eP,eW] at this; exact this
      · have:=I1.free; rw [eE] at this; exact this
      · rw [eE] at hm; exact hm
  exact codeAny_compStart_list (loop _ rfl) (T.self _ 0 _ _ _ (T.keep _ _ _ st λ b hb o e=>old b o e) (loop _ rfl))
end
section
variable {X:Cx} {scope:Scope} {cl:List (Str×Addr)} {x x2 y:Str} {px px2 py pos spos tpos:Pos} {tk:Nat} {elt iter:Expr} {ifs:List Expr} {c:Ga->R Bool} {f:Ga->R D} {fl:Ga->R (List D)}
def cpR2 (fl:Ga->R (List D)) (c:Ga->R Bool) (f:Ga->R D):Ga->R (List D):=λ Γ=>(fl Γ).bind λ ds=>if ds.length < 16000000 then compR2 c f Γ ds else .no
theorem cp_want2 {Γ:Ga} {ds:List D} {E:Str->Prop} {P:List D->Prop} (h:R.want (if ds.length < 16000000 then compR2 c f Γ ds else .no) E P):∃ outs,ds.length < 16000000/\compR2 c f Γ ds=.ok outs/\P outs:=by
  split at h
  · rename_i hl
    cases q:compR2 c f Γ ds with
    | ok outs=>rw [q] at h; exact ⟨outs,hl,rfl,h⟩
    | ex z=>exact absurd q (compR2_calm c f Γ ds z)
    | no=>rw [q] at h; exact h.elim
  · exact h.elim
theorem ow_comp2 {W:XP} (B:BlkOk2 X scope cl x x2) (hcalm:X.calm=true) (hi:ItD X W (.Tuple [.Name x px,.Name x2 px2] tk tpos) iter fl) (hT:∀ C s H fp,TsD (blk2 X scope cl C x x2 s H fp) ifs c) (hE:∀ C s H fp,EvD (blk2 X scope cl C x x2 s H fp) XP0 elt f)
    (hs:∀ x,foldedSetIterable iter X.env x=pure x:=by intro _; rfl):OwD X W (.ListComp elt [⟨.Tuple [.Name x px,.Name x2 px2] tk tpos,iter,ifs,0⟩] scope pos) (cpR2 fl c f):=by
  obtain ⟨wi,pI,qI⟩:=hi
  refine ⟨λ σ H Q=>∃ (H₀ G₀:Hp) (Γ:Ga) (G:Hp),Rep X.K H₀ G₀ Γ σ H G/\(cpR2 fl c f Γ).want (exAt W σ H G) λ outs=>∀ p vs H' G',Ext H G H' G'->H p=none->H' p=some (.lst vs)->G' p=none->DenL X.K G' outs vs->Q (.ref p) H',?_,λ H₀ G₀ Γ σ H G R Q w=>⟨H₀,G₀,Γ,G,R,w⟩⟩
  rintro pins s σ H Q I ⟨H₀,G₀,Γ,G,R,w⟩
  rw [eval_ListComp]
  refine wpAny_comprehension_free (use:=none) rfl hs B.clos B.kind B.names ?_
  have h1:=pI pins s σ H (λ J H'=>∃ G' ds outs,Ext H G H' G'/\Yields X.K J G' ds/\ds.length < 16000000/\compR2 c f Γ ds=.ok outs/\∀ p vs H' G',Ext H G H' G'->H p=none->H' p=some (.lst vs)->G' p=none->DenL X.K G' outs vs->Q (.ref p) H') I
    (qI _ _ _ _ _ _ R _ (wStep w (λ _ h=>h) λ ds w J H' G' E1 y=>let ⟨outs,hl,e2,k⟩:=cp_want2 w; ⟨G',ds,outs,E1,y,hl,e2,k⟩))
  refine thn h1 λ xv s1 h1=>thn h1 λ itv s2 ⟨it,fp,tn,J,H2,e,I2,T,st,hf,G2,ds,outs,E2,y2,hl,e2,k⟩=>?_
  subst e
  refine comp_core2 (RR:=λ acc C=>compPost (model X.prog X.w) X.A X.xe none (EP X pins σ Q) acc C) B hcalm I2 (R.after E2) T st hf y2 (λ C=>hT _ _ _ _) (λ C=>hE _ _ _ _) e2 hl ?_
  intro Dd C s' H' G' vs m os bare un hok hC hCn hns E' hp h' g' l
  refine ⟨m,hns,λ h'' hsb=>?_⟩
  have I3:=turned_C I2 (after_block I2 hf os bare un hok) hC hCn hsb
  exact ⟨.ref Dd,H',I3,rfl,k Dd vs H' G' (E2.trans E') (E2.hh.free hp) h' g' l⟩
end
def blkCheck2 (scope osc:Scope) (N keys:List Str) (x y:Str):Bool :=
  scope.kind == .function&&scope.names.all (λ y=>y.2 != .cell)&&scope.names.all (λ y=>y.2 != .local||scope.names.lookup y.1 == some .local)&&(scope.names.lookup x == some .local)&&(scope.names.lookup y == some .local) &&
  decide (blkN2 x y N).Nodup&&(relS scope osc).names.all (λ y=>!isCF ((relS scope osc).names.lookup y.1)||keys.contains y.1)&&!visB (relS scope osc) (accN N.length) &&
  N.all (λ z=>!visB (relS scope osc) z||(isCF ((relS scope osc).names.lookup z)&&isCF (osc.names.lookup z)))
theorem blk_mk2 {X:Cx} {scope:Scope} {cl:List (Str×Addr)} {x y:Str} (osc:Scope) (N keys:List Str) (e1:X.env.scope=osc) (e2:X.N=N) (clos:closureFor scope X.env=pure cl) (hk:keys.all (λ y=>(cl.map (·.1)).contains y)=true)
    (hc:∀ p∈cl,X.env.cells.lookup p.1=some p.2) (chk:blkCheck2 scope osc N keys x y=true):BlkOk2 X scope cl x y:=by
  subst e1 e2
  unfold blkCheck2 at chk
  simp only [Bool.and_eq_true] at chk
  obtain ⟨⟨⟨⟨⟨⟨⟨⟨c1,c2⟩,c3⟩,c4⟩,c4'⟩,c5⟩,c6⟩,c7⟩,c8⟩:=chk
  refine ⟨beq_iff_eq.mp c1,λ y hy=>?_,clos,λ y hy hl=>?_,beq_iff_eq.mp c4,beq_iff_eq.mp c4',of_decide_eq_true c5,λ y c h=>?_,λ y h=>?_,λ h=>?_,λ y hy hv=>?_⟩
  · exact bne_iff_ne.mp (List.all_eq_true.mp c2 y hy)
  · have:=List.all_eq_true.mp c3 y hy
    rw [hl] at this
    exact beq_iff_eq.mp (by simpa using this)
  · obtain ⟨p,hp,rfl,rfl⟩:=mem_of_lookup h
    exact hc p hp
  · have hcf:=isCF_of h
    rw [relS_eq] at hcf
    obtain ⟨k,hkk⟩:∃ k,(relS scope X.env.scope).names.lookup y=some k:=by
      rcases h with h | h
      · exact ⟨_,h⟩
      · exact ⟨_,h⟩
    obtain ⟨p,hp,rfl,_⟩:=mem_of_lookup hkk
    have:=List.all_eq_true.mp c6 p hp
    rw [hcf] at this
    exact lookup_of_key (List.all_eq_true.mp hk p.1 (List.contains_iff_mem.mp (by simpa using this)))
  · rw [relS_eq] at h
    rw [visB_of h] at c7
    cases c7
  · rw [relS_eq] at hv ⊢
    have:=List.all_eq_true.mp c8 y hy
    rw [visB_of hv] at this
    simp only [Bool.not_true,Bool.false_or,Bool.and_eq_true] at this
    exact ⟨isCF_iff this.1,isCF_iff this.2⟩
end Wy


namespace Wy
open PySem PySem.Spec PyProof.Rows L2
section
variable {X:Cx} {pins:List (Addr×Obj)} {σ:L2.St} {H:Hp} {s:Shared}
end
section
variable {X:Cx} {W:XP} {a b:Expr} {fl:Ga->R (List D)} {p pos tpos:Pos} {elts:List Expr} {x1:Nat}
end
end Wy


namespace Wy
open PySem PySem.Spec PyProof.Rows L2
section
variable {P:Program} {w:World} {K:PySem.W.Frag} {mg:Str->Option Value} {base:Heap}
end
def tabOk (q:Program) (K:PySem.W.Frag) (y:Str):Bool:=match PySem.W.tabIn K y with
  | none=>true
  | some (_,P)=>(K.lookup P).isNone&&((recsOf q).find? (λ e=>e.name == y)).isSome
theorem tabs0_of {q:Program} {K:PySem.W.Frag} {lo:List Str} {mean:ExcName->Option Value} {mg mb:Str->Option Value} {h:Heap} (T:Top q lo mean mg mb h) (X:K.In h) (hk:∀ y∈LAMS,tabOk q K y=true):Tabs0 K h:=λ y hy c P ht=>by
  have q1:=hk y hy
  unfold tabOk at q1
  rw [ht] at q1
  obtain ⟨q2,q3⟩:=Bool.and_eq_true_iff.mp q1
  obtain ⟨d,hd⟩:=Option.isSome_iff_exists.mp q3
  exact ⟨PySem.W.tab_of T X hd ht,Option.isNone_iff_eq_none.mp q2⟩
theorem tabs_one {q:Program} {K:PySem.W.Frag} (h:(LAMS.all λ y=>tabOk q K y)=true):∀ y∈LAMS,tabOk q K y=true:=λ y hy=>List.all_eq_true.mp h y hy
end Wy


namespace Wy
open PySem PySem.Spec PyProof.Rows L2
def Ris (xs:Array Nat):Prop:=∀ (i k:Nat) (hi:i < xs.size) (hk:k < xs.size),i < k->xs[i] < xs[k]
theorem below_go (xs:Array Nat) (hr:Ris xs) (j:Nat):∀ (fuel lo hi:Nat),lo<=hi->hi<=xs.size->hi - lo<=fuel->(∀ i (h:i < xs.size),i < lo->xs[i] < j)->(∀ i (h:i < xs.size),hi<=i->j<=xs[i]) ->
    SetTable.below.go xs j fuel lo hi<=xs.size/\(∀ i (h:i < xs.size),i < SetTable.below.go xs j fuel lo hi->xs[i] < j)/\(∀ i (h:i < xs.size),SetTable.below.go xs j fuel lo hi<=i->j<=xs[i]):=by
  intro fuel
  induction fuel with
  | zero =>
    intro lo hi h1 h2 h3 h4 h5
    have e:lo=hi:=by omega
    subst e
    exact ⟨h2,h4,h5⟩
  | succ fuel ih =>
    intro lo hi h1 h2 h3 h4 h5
    rw [SetTable.below.go]
    by_cases hlt:lo < hi
    · rw [if_pos hlt]
      have hm:(lo + hi) / 2 < xs.size:=by omega
      have e:xs.getD ((lo + hi) / 2) j=xs[(lo + hi) / 2]:=by
        rw [Array.getD,dif_pos hm]; rfl
      dsimp only
      rw [e]
      by_cases hc:xs[(lo + hi) / 2] < j
      · rw [if_pos hc]
        refine ih _ _ (by omega) h2 (by omega) (λ i hi' hlt'=>?_) h5
        by_cases he:i=(lo + hi) / 2
        · subst he; exact hc
        · exact Nat.lt_trans (hr i ((lo + hi) / 2) hi' hm (by omega)) hc
      · rw [if_neg hc]
        refine ih _ _ (by omega) (by omega) (by omega) h4 (λ i hi' hle=>?_)
        by_cases he:i=(lo + hi) / 2
        · subst he; omega
        · exact Nat.le_trans (Nat.le_of_not_lt hc) (Nat.le_of_lt (hr ((lo + hi) / 2) i hm hi' (by omega)))
    · rw [if_neg hlt]
      have e:lo=hi:=by omega
      subst e
      exact ⟨h2,h4,h5⟩
theorem below_spec (xs:Array Nat) (hr:Ris xs) (j:Nat):SetTable.below xs j<=xs.size/\(∀ i (h:i < xs.size),i < SetTable.below xs j->xs[i] < j)/\(∀ i (h:i < xs.size),SetTable.below xs j<=i->j<=xs[i]) :=
  below_go xs hr j _ _ _ (Nat.zero_le _) (Nat.le_refl _) (by omega) (λ i _ h=>absurd h (Nat.not_lt_zero _)) λ i h h'=>absurd h (by omega)
theorem below_next (xs:Array Nat) (hr:Ris xs) (i:Nat) (h:i < xs.size):SetTable.below xs (xs[i] + 1)=i + 1:=by
  obtain ⟨h1,h2,h3⟩:=below_spec xs hr (xs[i] + 1)
  rcases Nat.lt_trichotomy (SetTable.below xs (xs[i] + 1)) (i + 1) with hl | hl | hl
  · have:=h3 i h (by omega); omega
  · exact hl
  · have hi1:i + 1 < xs.size:=by omega
    have q:=h2 (i + 1) hi1 (by omega)
    have:=hr i (i + 1) h hi1 (by omega)
    omega
theorem below_zero (xs:Array Nat) (hr:Ris xs):SetTable.below xs 0=0:=by
  obtain ⟨h1,h2,h3⟩:=below_spec xs hr 0
  rcases Nat.eq_zero_or_pos (SetTable.below xs 0) with h | h
  · exact h
  · exact absurd (h2 0 (by omega) h) (Nat.not_lt_zero _)
theorem ris_list {l:List Nat} (h:l.Pairwise (· < ·)):Ris l.toArray:=λ i k hi hk hlt=>by
  simp only [List.getElem_toArray]
  exact List.pairwise_iff_getElem.mp h i k (by simpa using hi) (by simpa using hk) hlt
theorem ris_pw {xs:Array Nat} (h:Ris xs):xs.toList.Pairwise (· < ·):=List.pairwise_iff_getElem.mpr λ i k hi hk hlt=>by
  simp only [Array.getElem_toList]
  exact h i k (by simpa using hi) (by simpa using hk) hlt
theorem ris_insert {xs:Array Nat} (hr:Ris xs) {j:Nat} (hn:¬ (xs[SetTable.below xs j]?=some j)):Ris (SetTable.insertAt xs (SetTable.below xs j) j):=by
  obtain ⟨h1,h2,h3⟩:=below_spec xs hr j
  have e:SetTable.insertAt xs (SetTable.below xs j) j=(xs.toList.take (SetTable.below xs j)++j::xs.toList.drop (SetTable.below xs j)).toArray:=by
    apply Array.toList_inj.mp
    rw [SetTable.toList_insertAt]
  rw [e]
  have pw:=ris_pw hr
  refine ris_list (List.pairwise_append.mpr ⟨pw.sublist (List.take_sublist _ _),List.pairwise_cons.mpr ⟨λ a ha=>?_,pw.sublist (List.drop_sublist _ _)⟩,λ a ha b hb=>?_⟩)
  · obtain ⟨i,hi,rfl⟩:=List.mem_iff_getElem.mp ha
    rw [List.getElem_drop]
    have hsz:SetTable.below xs j + i < xs.size:=by
      have:=hi; rw [List.length_drop] at this; simp at this; omega
    have q:=h3 (SetTable.below xs j + i) hsz (by omega)
    simp only [Array.getElem_toList]
    rcases Nat.lt_or_eq_of_le q with h | h
    · exact h
    · exfalso
      rcases Nat.eq_zero_or_pos i with z | z
      · subst z
        simp only [Nat.add_zero] at h hsz
        exact hn (by rw [Array.getElem?_eq_getElem hsz,<- h])
      · have hb:SetTable.below xs j < xs.size:=by omega
        have q1:=h3 (SetTable.below xs j) hb (Nat.le_refl _)
        have q2:=hr (SetTable.below xs j) (SetTable.below xs j + i) hb hsz (by omega)
        omega
  · obtain ⟨i,hi,rfl⟩:=List.mem_iff_getElem.mp ha
    rw [List.getElem_take]
    have hi':i < SetTable.below xs j/\i < xs.size:=by
      have:=hi; rw [List.length_take] at this; simp at this; omega
    have q:=h2 i hi'.2 hi'.1
    simp only [Array.getElem_toList]
    rcases List.mem_cons.mp hb with rfl | hb
    · exact q
    · obtain ⟨k,hk,rfl⟩:=List.mem_iff_getElem.mp hb
      rw [List.getElem_drop]
      have hsz:SetTable.below xs j + k < xs.size:=by
        have:=hk; rw [List.length_drop] at this; simp at this; omega
      have:=h3 (SetTable.below xs j + k) hsz (by omega)
      simp only [Array.getElem_toList]
      omega
structure TOk (led:Bool) (t:SetTable):Prop where
  ris:Ris t.place
  dum:t.dummies=#[]
  led:t.led=led
theorem has_nil (j:Nat):SetTable.has #[] j=false:=by
  unfold SetTable.has
  rw [beq_eq_false_iff_ne]
  intro h
  simp at h
theorem tok_fresh (led:Bool):TOk led (.fresh 0 0 led):=⟨λ i k hi=>absurd hi (by simp [SetTable.fresh]),rfl,rfl⟩
theorem tok_standIn {led:Bool} {t:SetTable} (h:TOk led t) (n:Nat):TOk led (t.standIn n):=⟨by
  unfold SetTable.standIn
  dsimp only
  have:(Array.range n)=(List.range n).toArray:=by simp
  rw [this]
  exact ris_list (List.pairwise_lt_range),rfl,h.led⟩
theorem tok_orStandIn {led:Bool} {t:SetTable} (h:TOk led t) (n:Nat):TOk led (t.orStandIn n):=by
  unfold SetTable.orStandIn
  split
  · exact h
  · exact tok_standIn h n
theorem tok_plain {led:Bool} {t:SetTable} (h:TOk led t) (b:Bool):TOk led { t with plain:=b }:=⟨h.ris,h.dum,h.led⟩
theorem probe_empty {led:Bool} {t:SetTable} (h:TOk led t) {ha:Nat->Int} {hh:Int}:∀ (fuel:Nat) (p:SetTable.Probe) (j:Nat) (d:Option Nat),p.dummy=none->SetTable.probe.go t ha hh fuel p=some (.empty j d)->d=none/\¬ (t.place[SetTable.below t.place j]?=some j)
  | 0,p,j,d,_,e=>by cases e
  | fuel + 1,p,j,d,hd,e=>by
    unfold SetTable.probe.go at e
    have nd:∀ x,t.slot x≠.dummy:=λ x z=>by
      unfold SetTable.slot at z
      rw [h.dum] at z
      dsimp only at z
      rw [has_nil] at z
      split at z
      · cases z
      · simp at z
    split at e
    · rename_i hs
      cases e
      refine ⟨hd,λ z=>?_⟩
      unfold SetTable.slot at hs
      dsimp only at hs
      rw [z] at hs
      simp at hs
    · rename_i hs
      exact absurd hs (nd _)
    · split at e
      · cases e
      · refine probe_empty h fuel _ j d ?_ e
        unfold SetTable.advance
        split
        · exact hd
        · exact hd
theorem tok_layNew {led:Bool} {t:SetTable} (h:TOk led t) (es:Array (Int×Value)) (hs:Int) (x:Value):TOk led (layNew t es hs x).2.1:=by
  unfold layNew
  split
  · rename_i slot wd hf
    unfold SetTable.freeSlot at hf
    split at hf
    · rename_i j dummy hp
      obtain ⟨rfl,hn⟩:=probe_empty h _ _ j dummy rfl hp
      cases hf
      refine tok_orStandIn ?_ _
      unfold SetTable.put
      refine ⟨ris_insert h.ris hn,?_,h.led⟩
      show (if SetTable.has t.dummies _=true then _ else t.dummies)=#[]
      rw [h.dum,has_nil]
      rfl
    · cases hf
  · exact tok_standIn h _
theorem tok_relayAll {led:Bool} {t:SetTable} (h:TOk led t) (es:Array (Int×Value)) (n:Nat):TOk led (relayAll t es n).2.1:=by
  unfold relayAll
  split
  · rename_i t' order hr
    dsimp only
    split
    · unfold SetTable.relaid SetTable.laid at hr
      cases hl:SetTable.layClean (SetTable.sizeAbove n - 1) (es.map (·.1)) with
      | none=>rw [hl] at hr; cases hr
      | some owner =>
        rw [hl] at hr
        cases hr
        refine ⟨?_,rfl,h.led⟩
        refine ris_list ?_
        have:∀ (l:List Nat),l.Pairwise (· < ·)->((l.filterMap λ j=>(owner.getD j none).map (j,·)).map (·.1)).Pairwise (· < ·):=λ l hl=>by
          refine hl.sublist ?_
          induction l with
          | nil=>exact .slnil
          | cons a l ih =>
            have ih:=ih (List.pairwise_cons.mp hl).2
            rw [List.filterMap_cons]
            cases owner.getD a none with
            | none=>exact ih.cons _
            | some b=>exact ih.cons₂ _
        exact this _ List.pairwise_lt_range
    · exact tok_standIn h _
  · exact tok_standIn h _
end Wy


namespace Wy
open PySem PySem.Spec PyProof.Rows L2
section
variable {prog:Program} {w:World} {K:Type} [DecidableEq K] (knd:PySem.KeyKind prog w K)
def SetR (h:Heap) (a:Addr) (led:Bool) (es:Array (Int×Value)):Prop :=
  ∃ ep t,h.get? a=some { cls:=.type "set",dict:=none,data:=.set es ep t }/\ElemsOf knd es.toList/\es.size < scanBound/\t.fits es.size=true/\TOk led t
variable {knd}
variable {A:Around} {E:Value->Shared->Prop} {s:Shared} {led:Bool}
theorem setR_store {h:Heap} {a:Addr} {es es':Array (Int×Value)} {ep:Nat} {t t':SetTable} (ho:h.get? a=some { cls:=.type "set",dict:=none,data:=.set es ep t }) :
    (h.update a (Obj.putSet es' t')).get? a=some { cls:=.type "set",dict:=none,data:=.set es' (ep + 1) t' }:=by
  have:=Heap.get?_update_self (Obj.putSet es' t') ho (by rw [putSet_of es' t' rfl]; rfl)
  rw [putSet_of es' t' rfl] at this; exact this
theorem addTailR {g:Bool->Sem Unit} (hg:∀ (b:Bool) (s₁:Shared) (Q':Unit->Shared->Prop),Q' () s₁->wpAny (model prog w) A (g b) Q' E s₁)
    {a:Addr} {es:Array (Int×Value)} {ep:Nat} {t:SetTable} (ho:s.heap.get? a=some { cls:=.type "set",dict:=none,data:=.set es ep t })
    {es1:Array (Int×Value)} {t2:SetTable} (hel1:ElemsOf knd es1.toList)
    (hb1:es1.size < scanBound) (hf2:t2.fits es1.size=true) (ht2:TOk led t2) {wasDummy:Bool} {R:Option Bool->Shared->Prop}
    (h:∀ h' es',Heap.SameBut a s.heap h'->SetR knd h' a led es'->es'.toList.Perm es1.toList->R (some true) { s with heap:=h' }) :
    wpAny (model prog w) A (do
        storeSet a es1 t2
        if (!wasDummy&&t2.tooFull)=true then do
            g (relayAll t2 es1 (SetTable.grown es1.size)).2.2
            storeSet a (relayAll t2 es1 (SetTable.grown es1.size)).1 (relayAll t2 es1 (SetTable.grown es1.size)).2.1
            pure (some true)
          else pure (some true)) R E s:=by
  refine wpAny_bind (wpAny_storeSet_of ho rfl ?_ (fits_of_scanBound hb1))
  have ho1:=setR_store (es':=es1) (t':=t2) ho
  have hsb1:=Heap.SameBut.update s.heap a (Obj.putSet es1 t2)
  split
  · have hp:=relayAll_perm t2 es1 (SetTable.grown es1.size)
    have hfr:=relayAll_fits t2 es1 (SetTable.grown es1.size)
    have htr:=tok_relayAll ht2 es1 (SetTable.grown es1.size)
    generalize hRl:relayAll t2 es1 (SetTable.grown es1.size)=Rl at hp hfr htr ⊢
    obtain ⟨es2,t3,gave2⟩:=Rl
    dsimp only at hp hfr htr ⊢
    have hsz:es2.size=es1.size:=by rw [<- Array.length_toList,hp.length_eq,Array.length_toList]
    have hb2:es2.size < scanBound:=by rw [hsz]; exact hb1
    refine wpAny_bind (hg _ _ _ ?_)
    refine wpAny_bind (wpAny_storeSet_of ho1 rfl ?_ (fits_of_scanBound hb2))
    have ho2:=setR_store (es':=es2) (t':=t3) ho1
    exact wpAny_pure (h _ es2 (hsb1.trans (Heap.SameBut.update _ a _)) ⟨_,t3,ho2,hel1.perm hp,hb2,hfr,htr⟩ hp)
  · exact wpAny_pure (h _ es1 hsb1 ⟨_,t2,ho1,hel1,hb1,hf2,ht2⟩ (List.Perm.refl _))
theorem setAddR {a:Addr} {es:Array (Int×Value)} {k:K} {x:Value} {Q:Bool->Shared->Prop} (hkey:knd.is k x=true) (hsc:x.scannable=true) (hS:SetR knd s.heap a led es)
    (hroom:es.size + 1 < scanBound)
    (h:∀ h' es' b,Heap.SameBut a s.heap h'->SetR knd h' a led es'->((∃ e∈es.toList,knd.is k e.2=true)/\es'=es∨(∀ e∈es.toList,knd.is k e.2=false)/\es'.toList.Perm (es.toList++[(knd.hash k,x)]))->Q b { s with heap:=h',toks:=s.toks + 1 }) :
    wpAny (model prog w) A (setAdd a x) Q E s:=by
  unfold setAdd
  refine wpAny_holding (wpAny_bind (knd.pyHash hkey ?_))
  obtain ⟨ep,t,ho,hel,hb,hf,ht⟩:=hS
  unfold setAddHashed setAddHashedIn
  have hoT:({ s with toks:=s.toks + 1 }:Shared).heap.get? a=some { cls:=.type "set",dict:=none,data:=.set es ep t }:=ho
  refine wpAny_holding (wpAny_bind (wpAny_setState_of hoT rfl hf ?_))
  dsimp only
  rw [byScan_of hsc hb hel]
  simp only [↓reduceIte]
  unfold setAddByScan
  refine wpAny_bind ?_
  refine wpAny_bind (wpAny_rule ?_)
  refine wpAny_bind (wpAny_setScan_of hkey hoT rfl hf hel ?_)
  cases hr:List.findIdx? (λ e=>knd.is k e.2) es.toList with
  | some j =>
    dsimp only
    obtain ⟨hj,hpj,_⟩:=List.findIdx?_eq_some_iff_getElem.mp hr
    refine wpAny_pure (wpAny_pure ?_)
    exact h s.heap es _ (Heap.SameBut.refl a s.heap) ⟨ep,t,ho,hel,hb,hf,ht⟩ (.inl ⟨⟨es.toList[j],List.getElem_mem hj,hpj⟩,rfl⟩)
  | none =>
    dsimp only
    have hno:∀ e∈es.toList,knd.is k e.2=false:=λ e he=>by
      have:=List.findIdx?_eq_none_iff.mp hr e he
      simpa using this
    have hgw:∀ (b:Bool) {s₁:Shared} {Q':Unit->Shared->Prop},Q' () s₁->wpAny (model prog w) A (match b with | true=>rule "set.scan.the-table-gave-way" | false=>pure ()) Q' E s₁ :=
      λ b s₁ Q' hq=>by cases b <;> first | exact wpAny_pure hq | exact wpAny_rule hq
    have hperm:=layNew_perm t es (knd.hash k) x
    have hfits:=layNew_fits t es (knd.hash k) x
    have htok:=tok_layNew ht es (knd.hash k) x
    generalize hL:layNew t es (knd.hash k) x=L at hperm hfits htok ⊢
    obtain ⟨es1,t1,wasDummy,gave⟩:=L
    dsimp only at hperm hfits htok ⊢
    rw [Array.toList_push] at hperm
    have hel1:ElemsOf knd es1.toList:=(hel.push hkey hsc).perm hperm
    have hb1':es1.size < scanBound:=by rw [<- Array.length_toList,hperm.length_eq,List.length_append,Array.length_toList]; simpa using hroom
    refine wpAny_bind (hgw _ ?_)
    have hend:∀ h' es',Heap.SameBut a s.heap h'->SetR knd h' a led es'->es'.toList.Perm es1.toList->Q true { s with heap:=h',toks:=s.toks + 1 }:=λ h' es' hsb hS' hp=>h h' es' _ hsb hS' (.inr ⟨hno,hp.trans hperm⟩)
    split
    · refine wpAny_bind ?_
      rw [hashByValue_scannable 8 hsc]
      refine wpAny_pure ?_
      refine addTailR (s:={ s with toks:=s.toks + 1 }) (led:=led) ?_ hoT hel1 hb1' ?_ ?_ ?_
      · intro b s₁ Q' hq; cases b <;> first | exact wpAny_pure hq | exact wpAny_rule hq
      · split
        · exact hfits
        · exact SetTable.fits_plain_off hfits
      · split
        · exact htok
        · exact tok_plain htok _
      · intro h' es' hsb hS' hp; dsimp only; exact wpAny_pure (hend h' es' hsb hS' hp)
    · refine wpAny_bind (wpAny_pure ?_)
      simp only [↓reduceIte]
      refine addTailR (s:={ s with toks:=s.toks + 1 }) (led:=led) ?_ hoT hel1 hb1' hfits htok ?_
      · intro b s₁ Q' hq; cases b <;> first | exact wpAny_pure hq | exact wpAny_rule hq
      · intro h' es' hsb hS' hp; dsimp only; exact wpAny_pure (hend h' es' hsb hS' hp)
end
end Wy


namespace Wy
open PySem PySem.Spec PyProof.Rows L2
section
variable {prog:Program} {w:World} {K:Type} [DecidableEq K] {knd:PySem.KeyKind prog w K}
inductive KL (knd:PySem.KeyKind prog w K):List K->List (Int×Value)->Prop
  | nil:KL knd [] []
  | cons {k:K} {e:Int×Value} {ks:List K} {l:List (Int×Value)}:knd.is k e.2=true->KL knd ks l->KL knd (k::ks) (e::l)
theorem KL.length {ks:List K} {l:List (Int×Value)} (h:KL knd ks l):ks.length=l.length:=by
  induction h with
  | nil=>rfl
  | cons _ _ ih=>simp [ih]
theorem KL.append {ks ks':List K} {l l':List (Int×Value)} (h:KL knd ks l) (h':KL knd ks' l'):KL knd (ks++ks') (l++l'):=by
  induction h with
  | nil=>exact h'
  | cons a _ ih=>exact .cons a ih
theorem KL.perm {l l':List (Int×Value)} (p:l.Perm l'):∀ {ks:List K},KL knd ks l->∃ ks',ks.Perm ks'/\KL knd ks' l':=by
  induction p with
  | nil=>intro ks h; exact ⟨ks,.refl _,h⟩
  | cons x _ ih =>
    intro ks h
    cases h with
    | cons a r =>
      obtain ⟨ks',p1,h1⟩:=ih r
      exact ⟨_,p1.cons _,.cons a h1⟩
  | swap x y l =>
    intro ks h
    cases h with
    | cons a r =>
      cases r with
      | cons b r=>exact ⟨_,.swap _ _ _,.cons b (.cons a r)⟩
  | trans _ _ ih1 ih2 =>
    intro ks h
    obtain ⟨k1,p1,h1⟩:=ih1 h
    obtain ⟨k2,p2,h2⟩:=ih2 h1
    exact ⟨k2,p1.trans p2,h2⟩
theorem KL.has {ks:List K} {l:List (Int×Value)} (h:KL knd ks l) {k:K} (hk:k∈ks):∃ e∈l,knd.is k e.2=true:=by
  induction h with
  | nil=>cases hk
  | cons a r ih =>
    rcases List.mem_cons.mp hk with rfl | hk
    · exact ⟨_,List.mem_cons_self,a⟩
    · obtain ⟨e,h1,h2⟩:=ih hk
      exact ⟨e,List.mem_cons_of_mem _ h1,h2⟩
theorem KL.of {ks:List K} {l:List (Int×Value)} (h:KL knd ks l) {k:K} {e:Int×Value} (he:e∈l) (hk:knd.is k e.2=true):k∈ks:=by
  induction h with
  | nil=>cases he
  | cons a r ih =>
    rcases List.mem_cons.mp he with rfl | he
    · rw [knd.inj _ _ _ hk a]; exact List.mem_cons_self
    · exact List.mem_cons_of_mem _ (ih he)
def SetK (knd:PySem.KeyKind prog w K) (h:Heap) (a:Addr) (led:Bool) (ks:List K):Prop:=∃ es,SetR knd h a led es/\KL knd ks es.toList/\ks.Nodup
theorem SetR.at {h h':Heap} {a:Addr} {led:Bool} {es:Array (Int×Value)} (hs:SetR knd h a led es) (k:∀ o,h.get? a=some o->h'.get? a=some o):SetR knd h' a led es:=by
  obtain ⟨ep,t,ho,r⟩:=hs
  exact ⟨ep,t,k _ ho,r⟩
def ledOf (w:World):Bool:=!w.params.followText "set-order"
variable {A:Around} {E:Value->Shared->Prop} {s:Shared} {R:Result->Shared->Prop} {I:Addr} {fp wr:List Addr} {G:Array GenState->Array GenState->Prop} {n:Nat} {P:Nat->Value->Prop} {St:Nat->Shared->Prop} {led:Bool}
theorem set_loopK (W:WalksS prog w A.in1 I fp wr G n P St) (S:Addr) (hSf:S∉fp) (val:Nat->K) (hval:∀ i v,P i v->knd.is (val i) v=true/\v.scannable=true) (hb:n + 1 < scanBound) :
    ∀ (m i:Nat) (s:Shared) (ks:List K),n - i=m->i<=n->St i s->SetK knd s.heap S led ks->ks.length<=i->(∀ k,k∈ks↔∃ j,j < i/\val j=k) ->
      (∀ s' ks',Moved (S::wr) G s s'->SetK knd s'.heap S led ks'->ks'.length<=n->(∀ k,k∈ks'↔∃ j,j < n/\val j=k)->R (.ok (.ret .none)) s') ->
      codeAny (model prog w) A (.builtin "set.update.loop" ⟨[.ref S,.ref I],[]⟩) R s:=by
  have hSw:S∉wr:=λ h=>hSf (W.sub _ h)
  have hsub:∀ b∈wr,b∈S::wr:=λ b hb=>List.mem_cons_of_mem _ hb
  intro m
  induction m with
  | zero =>
    intro i s ks hk hi hst hS hlen hmem hR
    have hin:i=n:=by omega
    subst hin
    refine codeAny_builtin F.entry_set_update_loop ?_
    rw [Around.under_plainId F.plain_set_update_loop _]
    show wpAny _ A.in1 (pyNext (.ref I)>>=_) _ _ s
    refine wpAny_bind (W.done s _ _ hst λ s' hm=>?_)
    show wpAny _ A.in1 (ret Value.none) _ _ s'
    obtain ⟨es,h1,h2⟩:=hS
    exact wpAny_pure (hR s' ks (hm.mono hsub) ⟨es,h1.at λ o e=>hm.heap S o hSw e,h2⟩ hlen hmem)
  | succ m ih =>
    intro i s ks hk hi hst hS hlen hmem hR
    have hlt:i < n:=by omega
    refine codeAny_builtin F.entry_set_update_loop ?_
    rw [Around.under_plainId F.plain_set_update_loop _]
    show wpAny _ A.in1 (pyNext (.ref I)>>=_) _ _ s
    refine wpAny_bind (W.item i s _ _ hlt hst λ v s' hP hst' hm=>?_)
    obtain ⟨hv1,hv2⟩:=hval i v hP
    obtain ⟨es,hS1,hK,hnd⟩:=hS
    have hS':=hS1.at (h':=s'.heap) λ o e=>hm.heap S o hSw e
    have hes:es.size=ks.length:=by rw [<- Array.length_toList,hK.length]
    show wpAny _ A.in1 (holding [v] (setAdd S v)>>=_) _ _ s'
    refine wpAny_bind (wpAny_holding (setAddR hv1 hv2 hS' (by omega) λ h' es' b hsb hS2 hcase=>?_))
    have next:∀ ks',SetK knd h' S led ks'->ks'.length<=i + 1->(∀ k,k∈ks'↔∃ j,j < i + 1/\val j=k) ->
        codeAny (model prog w) A (.builtin "set.update.loop" ⟨[.ref S,.ref I],[]⟩) R { s' with heap:=h',toks:=s'.toks + 1 }:=λ ks' hS3 hl3 hm3=>by
      refine ih (i + 1) _ ks' (by omega) hlt (W.frame _ s' _ _ hst' (Nat.le_succ _) λ b hb o e=>?_) hS3 hl3 hm3 λ s'' ks'' hm'' hS''=>?_
      · rw [hsb.2 b (λ h:b=S=>hSf (by rw [<- h]; exact hb))]; exact e
      · refine hR s'' ks'' (Moved.trans W.gtrans ((hm.mono hsub).then_heap (Nat.le_succ _) λ b o hb e=>?_) hm'') hS''
        rw [hsb.2 b (λ h:b=S=>hb (by rw [h]; exact List.mem_cons_self))]; exact e
    refine wpAny_pure ⟨plainId_quiet F.plain_set_update_loop _,?_⟩
    rcases hcase with ⟨⟨e,he,hk1⟩,rfl⟩ | ⟨hno,hp⟩
    · refine next ks ⟨_,hS2,hK,hnd⟩ (by omega) λ k=>(hmem k).trans ⟨λ ⟨j,h1,h2⟩=>⟨j,by omega,h2⟩,λ ⟨j,h1,h2⟩=>?_⟩
      by_cases hj:j=i
      · subst hj
        subst h2
        exact (hmem _).mp (hK.of he hk1)
      · exact ⟨j,by omega,h2⟩
    · have hK2:KL knd (ks++[val i]) (es.toList++[(knd.hash (val i),v)]):=hK.append (.cons hv1 .nil)
      obtain ⟨ks',p1,hK3⟩:=KL.perm hp.symm hK2
      have hni:val i∉ks:=λ hm=>by
        obtain ⟨e,he,h1⟩:=hK.has hm
        rw [hno e he] at h1
        cases h1
      refine next ks' ⟨es',hS2,hK3,p1.nodup_iff.mp (List.nodup_append.mpr ⟨hnd,by simp,λ a ha b hb=>by rw [List.mem_singleton.mp hb]; exact λ z=>hni (z ▸ ha)⟩)⟩ (by rw [<- p1.length_eq]; simp; omega) λ k=>?_
      rw [<- p1.mem_iff,List.mem_append,List.mem_singleton,hmem k]
      constructor
      · rintro (⟨j,h1,h2⟩ | rfl)
        · exact ⟨j,by omega,h2⟩
        · exact ⟨i,by omega,rfl⟩
      · rintro ⟨j,h1,h2⟩
        by_cases hj:j=i
        · subst hj; exact .inr h2.symm
        · exact .inl ⟨j,by omega,h2⟩
theorem set_newK (a:Value) {Q₁:Value->Shared->Prop}
    (h:Q₁ (.ref s.heap.objs.size) { s with heap:=s.heap.push { cls:=.type "set",dict:=none,data:=.set #[] 0 (.fresh 0 0 (ledOf w)) } }) :
    codeAny (model prog w) A (.call (.builtin "set.__new__") ⟨[.type "set",a],[]⟩) (wants Q₁ E) s:=by
  refine codeAny_of_tree ?_
  show wpAny _ A.in1 (do checkBuiltinCall "set.__new__" ⟨[.type "set",a],[]⟩; again (.builtin "set.__new__" ⟨[.type "set",a],[]⟩)) _ _ s
  refine wpAny_bind (wpAny_of_eq (PySem.F.newCall_set_1 a) (wpAny_pure ⟨plainId_quiet PySem.F.plain_set_new _,codeAny_builtin PySem.F.entry_set_new ?_⟩))
  rw [Around.under_plainId PySem.F.plain_set_new _]
  unfold Builtin.«set.__new__» Builtin.Frozenset.newClass
  have hsub:=sub_set_self
  obtain ⟨hp,g,d,tk,os⟩:=s
  dsimp only
  wp_walk
  refine wpAny_askSetting (wpAny_pure ?_)
  dsimp only
  simp only [newObj]
  refine wpAny_bind (wpAny_alloc (wpAny_pure ?_))
  exact wpAny_pure h
theorem setK_fresh {h:Heap} {a:Addr} (ho:h.get? a=some { cls:=.type "set",dict:=none,data:=.set #[] 0 (.fresh 0 0 led) }):SetK knd h a led [] :=
  ⟨#[],⟨0,_,ho,λ e he=>by simp at he,by decide,by rfl,tok_fresh led⟩,.nil,.nil⟩
set_option maxHeartbeats 3200000 in
theorem call_set_L {l:Addr} {items:Array Value} {val:Nat->K} {Q:Value->Shared->Prop}
    (hh:A.handled=none) (hl:s.heap.IsList l items) (hval:∀ i v,items[i]?=some v->knd.is (val i) v=true/\v.scannable=true) (hb:items.size + 1 < scanBound)
    (h:∀ (h':Heap) (tk:Nat) (ks:List K),SetK knd h' s.heap.objs.size (ledOf w) ks->ks.length<=items.size->(∀ k,k∈ks↔∃ j,j < items.size/\val j=k) ->
      (∀ b o,b < s.heap.objs.size->s.heap.get? b=some o->h'.get? b=some o)->Q (.ref s.heap.objs.size) { s with heap:=h',toks:=tk }) :
    wpAny (model prog w) A (call (.type "set") [.ref l]) Q E s:=by
  obtain ⟨c,tl,hmro⟩:=PySem.F.called_set.mro
  have hmade:=PySem.F.called_set.made
  have hsub:=PySem.F.called_set.sub
  refine wpAny_call (codeAny_of_tree ?_)
  show wpAny _ _ (callAny (.type "set") _) _ _ _
  refine wpAny_pure ⟨Code.quiet_builtin _ (by decide +kernel),codeAny_builtin PySem.F.entry_type_call ?_⟩
  rw [Around.under_plain (weight_type_call_type "set" [.ref l] []) rfl]
  have h1:=PySem.F.called_set.notType
  have h2:=PySem.F.called_set.canCreate
  have hct:=PySem.F.typeCall_set_1 (.ref l)
  repeat (any_goals (first | assumption | wp_step))
  refine codeAny_mono (set_newK (.ref l) (E:=E) (Q₁:=λ obj s₁=>obj=.ref s.heap.objs.size/\s₁={ s with heap:=s.heap.push { cls:=.type "set",dict:=none,data:=.set #[] 0 (.fresh 0 0 (ledOf w)) } }) ⟨rfl,rfl⟩) λ r s₁ hr=>?_
  cases r with
  | error e=>exact hr
  | ok fl =>
    cases fl with
    | ret obj =>
      obtain ⟨rfl,rfl⟩:=hr
      generalize ledOf w=led at h ⊢
      have hS:(s.heap.push { cls:=.type "set",dict:=none,data:=.set #[] 0 (.fresh 0 0 led) }).get? s.heap.objs.size=some { cls:=.type "set",dict:=none,data:=.set #[] 0 (.fresh 0 0 led) }:=Heap.get?_push_size _ rfl
      have hT:Shared.TypeIs { s with heap:=s.heap.push { cls:=.type "set",dict:=none,data:=.set #[] 0 (.fresh 0 0 led) } } (.ref s.heap.objs.size) "set":=⟨_,hS,rfl⟩
      have hli:=PySem.F.called_set.init.lookup
      have hbi:=PySem.F.called_set.init.bind (.ref s.heap.objs.size)
      repeat (any_goals (first | assumption | wp_step))
      refine codeAny_mono (codeAny_call_builtin (R:=wants (λ r s₂=>r=.none/\∃ h' tk ks,s₂={ s with heap:=h',toks:=tk }/\SetK knd h' s.heap.objs.size led ks/\ks.length<=items.size/\(∀ k,k∈ks↔∃ j,j < items.size/\val j=k) /\
          (∀ b o,b < s.heap.objs.size->s.heap.get? b=some o->h'.get? b=some o)) E) PySem.F.called_set.init.plain PySem.F.entry_set_init (check_set_init_1 hT ?_)) λ r₂ s₂ hr₂=>?_
      · obtain ⟨ol,hol,hcl,nl,hdl⟩:=hl
        obtain ⟨ocls,odict,odata,oslots⟩:=ol
        simp only at hcl hdl
        subst hcl; subst hdl
        have hol':(s.heap.push { cls:=.type "set",dict:=none,data:=.set #[] 0 (.fresh 0 0 led) }).get? l=some { cls:=.type "list",dict:=odict,data:=.seq items nl,slots:=oslots }:=Heap.get?_push_of_some _ hol
        have hsls:=PySem.F.sub_list_set
        have hslf:=PySem.F.sub_list_frozenset
        have hne:(Value.type "list" == Value.type "dict")=false:=by decide
        have hl1:(s.heap.push { cls:=.type "set",dict:=none,data:=.set #[] 0 (.fresh 0 0 led) }).IsList l items:=⟨_,hol',rfl,nl,rfl⟩
        unfold Builtin.«set.__init__» noKeywords Builtin.Frozenset.updateFrom
        generalize hPI:pyIter=PI
        wp_walk
        subst hPI
        refine wpAny_pyIter_list hl1 ?_
        refine wpAny_bind (wpAny_runValue ?_)
        have hlS:l < s.heap.objs.size:=Heap.lt_size hol
        have hh3:A.in1.in1.in1.handled=none:=by simp [hh]
        have hneI:l≠(s.heap.push { cls:=.type "set",dict:=none,data:=.set #[] 0 (.fresh 0 0 led) }).objs.size:=by
          rw [Heap.size_push]; exact Nat.ne_of_lt (Nat.lt_succ_of_lt hlS)
        have hSf:s.heap.objs.size∉[(s.heap.push { cls:=.type "set",dict:=none,data:=.set #[] 0 (.fresh 0 0 led) }).objs.size,l]:=by
          rw [Heap.size_push]; simp only [List.mem_cons,List.mem_singleton,List.not_mem_nil,or_false,not_or]
          exact ⟨Nat.ne_of_lt (Nat.lt_succ_self _),Nat.ne_of_gt hlS⟩
        have hget:((s.heap.push { cls:=.type "set",dict:=none,data:=.set #[] 0 (.fresh 0 0 led) }).push { cls:=.type "list_iterator",data:=.fields #[.ref l,.int 0 0] }).get? s.heap.objs.size
             =some { cls:=.type "set",dict:=none,data:=.set #[] 0 (.fresh 0 0 led) }:=Heap.get?_push_of_some _ hS
        refine set_loopK (knd:=knd) (led:=led) ((Walks.list hh3 _ l hneI items).toS) s.heap.objs.size hSf val hval hb (items.size - 0) 0 _ [] (by omega) (Nat.zero_le _)
          ⟨⟨_,Heap.get?_push_size _ rfl,rfl,rfl⟩,(hl1.push _)⟩ (setK_fresh hget) (Nat.zero_le _) (λ k=>by simp) ?_
        intro s' ks hm hS' hlen hmem
        obtain ⟨h',g',d',tk',os'⟩:=s'
        have eg:g'=s.gens:=hm.gens
        have ed:d'=s.drawn:=hm.drawn
        have eo:os'=s.os:=hm.os
        subst eg; subst ed; subst eo
        show wpAny _ _ _ _ _ _
        refine wpAny_pure ?_
        show wpAny _ _ (ret Value.none) _ _ _
        refine wpAny_pure ⟨rfl,h',tk',ks,rfl,hS',hlen,hmem,λ b o hb e=>?_⟩
        have hb1:b≠s.heap.objs.size:=Nat.ne_of_lt hb
        have hb2:b≠(s.heap.push { cls:=.type "set",dict:=none,data:=.set #[] 0 (.fresh 0 0 led) }).objs.size:=by
          rw [Heap.size_push]; exact Nat.ne_of_lt (Nat.lt_succ_of_lt hb)
        exact hm.heap b o (by simp only [List.mem_cons,List.mem_singleton,List.not_mem_nil,or_false,not_or]; exact ⟨hb1,hb2⟩) (Heap.get?_push_of_some _ (Heap.get?_push_of_some _ e))
      · cases r₂ with
        | error e=>exact hr₂
        | ok fl₂ =>
          cases fl₂ with
          | ret r =>
            obtain ⟨rfl,h',tk,ks,rfl,hS',hlen,hmem,hk'⟩:=hr₂
            repeat (any_goals (first | assumption | wp_step))
            exact h _ _ _ hS' hlen hmem hk'
          | _=>exact hr₂.elim
    | _=>exact hr.elim
set_option maxHeartbeats 3200000 in
theorem call_set_T {l:Addr} {items:Array Value} {val:Nat->K} {Q:Value->Shared->Prop}
    (hh:A.handled=none) (hl:s.heap.IsTuple l items) (hval:∀ i v,items[i]?=some v->knd.is (val i) v=true/\v.scannable=true) (hb:items.size + 1 < scanBound)
    (h:∀ (h':Heap) (tk:Nat) (ks:List K),SetK knd h' s.heap.objs.size (ledOf w) ks->ks.length<=items.size->(∀ k,k∈ks↔∃ j,j < items.size/\val j=k) ->
      (∀ b o,b < s.heap.objs.size->s.heap.get? b=some o->h'.get? b=some o)->Q (.ref s.heap.objs.size) { s with heap:=h',toks:=tk }) :
    wpAny (model prog w) A (call (.type "set") [.ref l]) Q E s:=by
  obtain ⟨c,tl,hmro⟩:=PySem.F.called_set.mro
  have hmade:=PySem.F.called_set.made
  have hsub:=PySem.F.called_set.sub
  refine wpAny_call (codeAny_of_tree ?_)
  show wpAny _ _ (callAny (.type "set") _) _ _ _
  refine wpAny_pure ⟨Code.quiet_builtin _ (by decide +kernel),codeAny_builtin PySem.F.entry_type_call ?_⟩
  rw [Around.under_plain (weight_type_call_type "set" [.ref l] []) rfl]
  have h1:=PySem.F.called_set.notType
  have h2:=PySem.F.called_set.canCreate
  have hct:=PySem.F.typeCall_set_1 (.ref l)
  repeat (any_goals (first | assumption | wp_step))
  refine codeAny_mono (set_newK (.ref l) (E:=E) (Q₁:=λ obj s₁=>obj=.ref s.heap.objs.size/\s₁={ s with heap:=s.heap.push { cls:=.type "set",dict:=none,data:=.set #[] 0 (.fresh 0 0 (ledOf w)) } }) ⟨rfl,rfl⟩) λ r s₁ hr=>?_
  cases r with
  | error e=>exact hr
  | ok fl =>
    cases fl with
    | ret obj =>
      obtain ⟨rfl,rfl⟩:=hr
      generalize ledOf w=led at h ⊢
      have hS:(s.heap.push { cls:=.type "set",dict:=none,data:=.set #[] 0 (.fresh 0 0 led) }).get? s.heap.objs.size=some { cls:=.type "set",dict:=none,data:=.set #[] 0 (.fresh 0 0 led) }:=Heap.get?_push_size _ rfl
      have hT:Shared.TypeIs { s with heap:=s.heap.push { cls:=.type "set",dict:=none,data:=.set #[] 0 (.fresh 0 0 led) } } (.ref s.heap.objs.size) "set":=⟨_,hS,rfl⟩
      have hli:=PySem.F.called_set.init.lookup
      have hbi:=PySem.F.called_set.init.bind (.ref s.heap.objs.size)
      repeat (any_goals (first | assumption | wp_step))
      refine codeAny_mono (codeAny_call_builtin (R:=wants (λ r s₂=>r=.none/\∃ h' tk ks,s₂={ s with heap:=h',toks:=tk }/\SetK knd h' s.heap.objs.size led ks/\ks.length<=items.size/\(∀ k,k∈ks↔∃ j,j < items.size/\val j=k) /\
          (∀ b o,b < s.heap.objs.size->s.heap.get? b=some o->h'.get? b=some o)) E) PySem.F.called_set.init.plain PySem.F.entry_set_init (check_set_init_1 hT ?_)) λ r₂ s₂ hr₂=>?_
      · obtain ⟨ol,hol,hcl,nl,hdl⟩:=hl
        obtain ⟨ocls,odict,odata,oslots⟩:=ol
        simp only at hcl hdl
        subst hcl; subst hdl
        have hol':(s.heap.push { cls:=.type "set",dict:=none,data:=.set #[] 0 (.fresh 0 0 led) }).get? l=some { cls:=.type "tuple",dict:=odict,data:=.seq items nl,slots:=oslots }:=Heap.get?_push_of_some _ hol
        have hsls:=PySem.F.sub_tuple_set
        have hslf:=PySem.F.sub_tuple_frozenset
        have hne:(Value.type "tuple" == Value.type "dict")=false:=by decide
        have hl1:(s.heap.push { cls:=.type "set",dict:=none,data:=.set #[] 0 (.fresh 0 0 led) }).IsTuple l items:=⟨_,hol',rfl,nl,rfl⟩
        unfold Builtin.«set.__init__» noKeywords Builtin.Frozenset.updateFrom
        generalize hPI:pyIter=PI
        wp_walk
        subst hPI
        refine wpAny_pyIter_tuple hl1 ?_
        refine wpAny_bind (wpAny_runValue ?_)
        have hlS:l < s.heap.objs.size:=Heap.lt_size hol
        have hh3:A.in1.in1.in1.handled=none:=by simp [hh]
        have hneI:l≠(s.heap.push { cls:=.type "set",dict:=none,data:=.set #[] 0 (.fresh 0 0 led) }).objs.size:=by
          rw [Heap.size_push]; exact Nat.ne_of_lt (Nat.lt_succ_of_lt hlS)
        have hSf:s.heap.objs.size∉[(s.heap.push { cls:=.type "set",dict:=none,data:=.set #[] 0 (.fresh 0 0 led) }).objs.size,l]:=by
          rw [Heap.size_push]; simp only [List.mem_cons,List.mem_singleton,List.not_mem_nil,or_false,not_or]
          exact ⟨Nat.ne_of_lt (Nat.lt_succ_self _),Nat.ne_of_gt hlS⟩
        have hget:((s.heap.push { cls:=.type "set",dict:=none,data:=.set #[] 0 (.fresh 0 0 led) }).push { cls:=.type "tuple_iterator",data:=.fields #[.ref l,.int 0 0] }).get? s.heap.objs.size
             =some { cls:=.type "set",dict:=none,data:=.set #[] 0 (.fresh 0 0 led) }:=Heap.get?_push_of_some _ hS
        refine set_loopK (knd:=knd) (led:=led) ((Walks.tuple hh3 _ l hneI items).toS) s.heap.objs.size hSf val hval hb (items.size - 0) 0 _ [] (by omega) (Nat.zero_le _)
          ⟨⟨_,Heap.get?_push_size _ rfl,rfl,rfl⟩,(hl1.push _)⟩ (setK_fresh hget) (Nat.zero_le _) (λ k=>by simp) ?_
        intro s' ks hm hS' hlen hmem
        obtain ⟨h',g',d',tk',os'⟩:=s'
        have eg:g'=s.gens:=hm.gens
        have ed:d'=s.drawn:=hm.drawn
        have eo:os'=s.os:=hm.os
        subst eg; subst ed; subst eo
        show wpAny _ _ _ _ _ _
        refine wpAny_pure ?_
        show wpAny _ _ (ret Value.none) _ _ _
        refine wpAny_pure ⟨rfl,h',tk',ks,rfl,hS',hlen,hmem,λ b o hb e=>?_⟩
        have hb1:b≠s.heap.objs.size:=Nat.ne_of_lt hb
        have hb2:b≠(s.heap.push { cls:=.type "set",dict:=none,data:=.set #[] 0 (.fresh 0 0 led) }).objs.size:=by
          rw [Heap.size_push]; exact Nat.ne_of_lt (Nat.lt_succ_of_lt hb)
        exact hm.heap b o (by simp only [List.mem_cons,List.mem_singleton,List.not_mem_nil,or_false,not_or]; exact ⟨hb1,hb2⟩) (Heap.get?_push_of_some _ (Heap.get?_push_of_some _ e))
      · cases r₂ with
        | error e=>exact hr₂
        | ok fl₂ =>
          cases fl₂ with
          | ret r =>
            obtain ⟨rfl,h',tk,ks,rfl,hS',hlen,hmem,hk'⟩:=hr₂
            repeat (any_goals (first | assumption | wp_step))
            exact h _ _ _ hS' hlen hmem hk'
          | _=>exact hr₂.elim
    | _=>exact hr.elim
end
end Wy


namespace Wy
open PySem PySem.Spec PyProof.Rows L2
theorem slot_si_next:Slot "set_iterator" "__next__" "set_iterator.__next__" :=
  .of (owner:="set_iterator") (n:="__next__") (by rw [typeLookup_type,builtinLookup_eq_fast]; kernel_rfl) (by decide +kernel) (by decide +kernel) (by decide +kernel)
    (by first | exact .inl (by decide +kernel) | exact .inr (by decide +kernel)) (by rw [isSubtype_type]; kernel_rfl)
theorem entry_si_next:entryFor table "set_iterator.__next__"=some Builtin.«set_iterator.__next__»:=entryFor_of_tree (by kernel_rfl)
theorem args_si_next (a:Value):argsOk "set_iterator.__next__" ⟨[a],[]⟩:=by unfold argsOk; kernel_rfl
theorem entry_set_iter:entryFor table "set.__iter__"=some Builtin.«frozenset.__iter__» :=
  entryFor_alias (id':="frozenset.__iter__") (by kernel_rfl) rfl (by decide +kernel) (by kernel_rfl)
theorem slot_si_iter:Slot "set_iterator" "__iter__" "set_iterator.__iter__" :=
  .of (owner:="set_iterator") (n:="__iter__") (by rw [typeLookup_type,builtinLookup_eq_fast]; kernel_rfl) (by decide +kernel) (by decide +kernel) (by decide +kernel)
    (by first | exact .inl (by decide +kernel) | exact .inr (by decide +kernel)) (by rw [isSubtype_type]; kernel_rfl)
theorem entry_si_iter:entryFor table "set_iterator.__iter__"=some Builtin.«dict_keyiterator.__iter__» :=
  entryFor_alias (id':="dict_keyiterator.__iter__") (by kernel_rfl) rfl (by decide +kernel) (by kernel_rfl)
theorem args_si_iter (a:Value):argsOk "set_iterator.__iter__" ⟨[a],[]⟩:=by unfold argsOk; kernel_rfl
theorem erase_perm {α:Type}:∀ {l:List α} {i:Nat} (h:i < l.length),(l[i]::l.eraseIdx i).Perm l
  | [],i,h=>by cases h
  | x::l,0,h=>.refl _
  | x::l,i + 1,h=>by
    have ih:=erase_perm (l:=l) (i:=i) (by simpa using h)
    exact (List.Perm.swap _ _ _).trans (ih.cons x)
theorem pick_go {α:Type} (next:Nat->Nat):∀ (fuel k:Nat) (left:List α) (out:Array α),fuel=left.length->(pickOrder.go next fuel k left out).toList.Perm (out.toList++left)
  | 0,k,left,out,h=>by
    have:left=[]:=List.eq_nil_of_length_eq_zero h.symm
    subst this
    unfold pickOrder.go
    rw [List.append_nil]
  | fuel + 1,k,left,out,h=>by
    unfold pickOrder.go
    have hl:0 < left.length:=by omega
    have hi:next k % left.length < left.length:=Nat.mod_lt _ hl
    rw [List.getElem?_eq_getElem hi]
    dsimp only
    refine (pick_go next fuel (k + 1) _ _ (by rw [List.length_eraseIdx_of_lt hi]; omega)).trans ?_
    rw [Array.toList_push,List.append_assoc]
    exact (erase_perm hi).append_left _
theorem pick_perm {α:Type} (next:Nat->Nat) (xs:Array α):(pickOrder next xs).toList.Perm xs.toList:=by
  have:=pick_go next xs.size 0 xs.toList #[] (by simp)
  simpa [pickOrder] using this
section
variable {prog:Program} {w:World} {A:Around} {E:Value->Shared->Prop} {s:Shared}
theorem wpAny_chooseR {src:Source} {n:Nat} {Q:Nat->Shared->Prop} (hn:n≠0) (h:∀ i d,i < n->Q i { s with drawn:=d }):wpAny (model prog w) A (choose src n) Q E s:=λ Γ p hΓ=>by
  unfold choose
  rw [Sem.wp_choose]
  exact ⟨hn,h _ _ (Nat.mod_lt _ (Nat.pos_of_ne_zero hn))⟩
theorem drawOrderR {α:Type}:∀ (n:Nat) (xs:List α) (s:Shared) (Q:List α->Shared->Prop),n=xs.length->(∀ ys d,ys.Perm xs->Q ys { s with drawn:=d })->wpAny (model prog w) A (drawOrder n xs) Q E s
  | 0,xs,s,Q,hn,h=>by
    have:xs=[]:=List.eq_nil_of_length_eq_zero hn.symm
    subst this
    exact wpAny_pure (h [] s.drawn (.refl _))
  | n + 1,[],s,Q,hn,h=>by cases hn
  | n + 1,x::xs,s,Q,hn,h=>by
    unfold drawOrder
    refine wpAny_bind (wpAny_chooseR (by simp) λ i d hi=>?_)
    rw [List.getElem?_eq_getElem hi]
    dsimp only
    have hlen:n=((x::xs).eraseIdx i).length:=by
      rw [List.length_eraseIdx_of_lt hi]; simp at hn ⊢; exact hn
    refine wpAny_bind (drawOrderR n _ _ _ hlen λ ys d' hp=>wpAny_pure (h _ d' ?_))
    exact (hp.cons _).trans (erase_perm hi)
def drw (es:Array (Int×Value)) (t:SetTable):Bool:=!t.plain&&es.size > 1
abbrev byText (w:World):Bool:=w.params.followText "set-order"
abbrev IsSetIter (h:Heap) (I a:Addr) (first:Value) (i n ep:Nat):Prop :=
  h.get? I=some { cls:=.type "set_iterator",dict:=none,data:=.fields #[first,rawInt i,.ref a,rawInt n,rawInt ep],slots:=#[] }
abbrev IsSetObj (h:Heap) (a:Addr) (es:Array (Int×Value)) (ep:Nat) (t:SetTable):Prop:=h.get? a=some { cls:=.type "set",dict:=none,data:=.set es ep t }
theorem setNext_plain {a:Addr} {es:Array (Int×Value)} {ep slot given:Nat} {t:SetTable} {Q:Option (Value×Nat)->Shared->Prop} (ho:IsSetObj s.heap a es ep t) (hf:t.fits es.size=true) (hb:byText w=false) (hd:drw es t=false) (hl:t.led=true)
    (h:Q (match es[SetTable.below t.place slot]?,t.place[SetTable.below t.place slot]? with | some (_,x),some j=>some (x,j + 1) | _,_=>none) s):wpAny (model prog w) A (setNext a slot given ep) Q E s:=by
  unfold setNext setsByText
  refine wpAny_bind (wpAny_setState_of ho rfl hf ?_)
  dsimp only
  refine wpAny_bind (wpAny_bind (wpAny_askSetting (wpAny_pure ?_)))
  show wpAny (model prog w) A (if byText w=true then _ else _) Q E s
  rw [if_neg (by rw [hb]; exact Bool.false_ne_true)]
  show wpAny (model prog w) A (if drw es t=true then _ else _) Q E s
  rw [if_neg (by rw [hd]; exact Bool.false_ne_true)]
  refine wpAny_bind ?_
  show wpAny (model prog w) A (if (!t.led&&!es.isEmpty)=true then _ else _) _ E s
  rw [if_neg (by rw [hl]; exact Bool.false_ne_true)]
  exact wpAny_pure (wpAny_pure h)
theorem setNext_text {a:Addr} {es:Array (Int×Value)} {ep slot given:Nat} {t:SetTable} {Q:Option (Value×Nat)->Shared->Prop} (ho:IsSetObj s.heap a es ep t) (hf:t.fits es.size=true) (hb:byText w=true)
    (h:Q (((pickOrder (w.params.setOrder a ep) es)[given]?).map λ e=>(e.2,slot)) s):wpAny (model prog w) A (setNext a slot given ep) Q E s:=by
  unfold setNext setsByText
  refine wpAny_bind (wpAny_setState_of ho rfl hf ?_)
  dsimp only
  refine wpAny_bind (wpAny_bind (wpAny_askSetting (wpAny_pure ?_)))
  show wpAny (model prog w) A (if byText w=true then _ else _) Q E s
  rw [if_pos hb]
  rw [if_neg (by simp)]
  unfold setWalk setsByText
  refine wpAny_bind (wpAny_bind (wpAny_setState_of ho rfl hf ?_))
  dsimp only
  refine wpAny_bind (wpAny_bind (wpAny_askSetting (wpAny_pure ?_)))
  show wpAny (model prog w) A (if byText w=true then _ else _) _ E s
  rw [if_pos hb]
  exact wpAny_bind (wpAny_askSetting (wpAny_pure (wpAny_pure h)))
end
end Wy


namespace Wy
open PySem PySem.Spec PyProof.Rows L2
section
variable {prog:Program} {w:World} {A:Around} {E:Value->Shared->Prop} {s:Shared}
inductive SetWay (w:World) (a:Addr) (es:Array (Int×Value)) (ep:Nat) (t:SetTable):Heap->(Nat->Value)->List (Int×Value)->List Addr->Prop
  | plain {h:Heap}:byText w=false->drw es t=false->t.led=true->Ris t.place->t.place.size=es.size->SetWay w a es ep t h (λ i=>rawInt (if i=0 then 0 else t.place.getD (i - 1) 0 + 1:Nat)) es.toList []
  | text {h:Heap}:byText w=true->SetWay w a es ep t h (λ _=>rawInt 0) (pickOrder (w.params.setOrder a ep) es).toList []
  | drawn {h:Heap} {T:Addr} {ys:List Nat}:ys.Perm (List.range es.size)->h.get? T=some { cls:=.type "tuple",data:=.seq (ys.map λ (i:Nat)=>rawInt i).toArray }->SetWay w a es ep t h (λ _=>.ref T) (ys.filterMap λ i=>es[i]?) [T]
theorem SetWay.at {a:Addr} {es:Array (Int×Value)} {ep:Nat} {t:SetTable} {h h':Heap} {f:Nat->Value} {ord:List (Int×Value)} {ts:List Addr} (W:SetWay w a es ep t h f ord ts) (k:∀ b∈ts,∀ o,h.get? b=some o->h'.get? b=some o):SetWay w a es ep t h' f ord ts:=by
  cases W with
  | plain h1 h2 h3 h4 h5=>exact .plain h1 h2 h3 h4 h5
  | text h1=>exact .text h1
  | drawn h1 h2=>exact .drawn h1 (k _ (by simp) _ h2)
theorem SetWay.perm {a:Addr} {es:Array (Int×Value)} {ep:Nat} {t:SetTable} {h:Heap} {f:Nat->Value} {ord:List (Int×Value)} {ts:List Addr} (W:SetWay w a es ep t h f ord ts):ord.Perm es.toList:=by
  cases W with
  | plain=>exact .refl _
  | text=>exact pick_perm _ _
  | drawn h1 _ =>
    refine (h1.filterMap _).trans ?_
    rw [filterMap_getElem?_range]
section
variable {I a:Addr} {es:Array (Int×Value)} {ep i:Nat} {t:SetTable} {f:Nat->Value} {ord:List (Int×Value)} {ts:List Addr}
theorem si_item {Q:Option Value->Shared->Prop} {e:Int×Value} (W:SetWay w a es ep t s.heap f ord ts) (hI:IsSetIter s.heap I a (f i) i es.size ep) (ho:IsSetObj s.heap a es ep t) (hf:t.fits es.size=true) (he:ord[i]?=some e)
    (hQ:∀ h',IsSetIter h' I a (f (i + 1)) (i + 1) es.size ep->Heap.SameBut I s.heap h'->Q (some e.2) { s with heap:=h' }):wpAny (model prog w) A (pyNext (.ref I)) Q E s:=by
  have hT:s.TypeIs (.ref I) "set_iterator":=⟨_,hI,rfl⟩
  unfold pyNext
  refine wpAny_bind (wpAny_attempt (wpAny_callSpecial?_slot (name:=Str.ofString "__next__") hT slot_si_next (wpAny_call_entry slot_si_next hT entry_si_next ?_ (args_si_next _))))
  show wpAny _ _ (fieldsOf (.ref I)>>=_) _ _ s
  refine wpAny_bind (wpAny_fieldsOf hI rfl ?_)
  dsimp only [rawInt]
  refine wpAny_bind (wpAny_setEntries_of ho rfl hf ?_)
  rw [if_neg (by simp)]
  cases W with
  | plain h1 h2 h3 h4 h5 =>
    have hi:i < es.size:=by
      have:=(List.getElem?_eq_some_iff.mp he).1; simpa using this
    have hi':i < t.place.size:=by omega
    have hb:SetTable.below t.place (if i=0 then 0 else t.place.getD (i - 1) 0 + 1)=i:=by
      cases i with
      | zero=>exact below_zero _ h4
      | succ j =>
        have hj:j < t.place.size:=by omega
        have e1:t.place.getD j 0=t.place[j]:=by rw [Array.getD,dif_pos hj]; rfl
        simp only [Nat.add_one_ne_zero,if_false,Nat.add_sub_cancel]
        rw [e1]
        exact below_next _ h4 j hj
    show wpAny _ _ (setNext a (Int.toNat ((if i=0 then 0 else t.place.getD (i - 1) 0 + 1:Nat):Int)) (Int.toNat (i:Int)) (Int.toNat (ep:Int))>>=_) _ _ s
    simp only [Int.toNat_natCast]
    refine wpAny_bind (setNext_plain ho hf h1 h2 h3 ?_)
    rw [hb]
    have e2:es[i]?=some e:=by rw [<- Array.getElem?_toList]; exact he
    rw [e2,Array.getElem?_eq_getElem hi']
    obtain ⟨e0,ev⟩:=e
    dsimp only
    refine wpAny_bind (wpAny_setField_rec hI (by simp) λ h1 g1 sb1=>?_)
    refine wpAny_bind (wpAny_setField_rec (s:={ s with heap:=h1 }) g1 (by simp) λ h2 g2 sb2=>?_)
    refine wpAny_pure ⟨_,rfl,wpAny_pure (hQ _ ?_ (sb1.trans sb2))⟩
    have e3:t.place.getD i 0=t.place[i]:=by rw [Array.getD,dif_pos hi']; rfl
    have g2':h2.get? I=some { cls:=.type "set_iterator",dict:=none,data:=.fields #[rawInt ((t.place[i] + 1:Nat):Int),rawInt ((i:Int) + 1),.ref a,rawInt (es.size:Int),rawInt (ep:Int)],slots:=#[] }:=g2
    show h2.get? I=_
    rw [g2']
    simp [e3]
  | text h1 =>
    show wpAny _ _ (setNext a (Int.toNat (0:Int)) (Int.toNat (i:Int)) (Int.toNat (ep:Int))>>=_) _ _ s
    simp only [Int.toNat_natCast]
    refine wpAny_bind (setNext_text ho hf h1 ?_)
    have e2:(pickOrder (w.params.setOrder a ep) es)[i]?=some e:=by rw [<- Array.getElem?_toList]; exact he
    rw [e2]
    obtain ⟨e0,ev⟩:=e
    simp only [Option.map_some]
    refine wpAny_bind (wpAny_setField_rec hI (by simp) λ h1 g1 sb1=>?_)
    refine wpAny_bind (wpAny_setField_rec (s:={ s with heap:=h1 }) g1 (by simp) λ h2 g2 sb2=>?_)
    refine wpAny_pure ⟨_,rfl,wpAny_pure (hQ _ ?_ (sb1.trans sb2))⟩
    have g2':h2.get? I=some { cls:=.type "set_iterator",dict:=none,data:=.fields #[rawInt 0,rawInt ((i:Int) + 1),.ref a,rawInt (es.size:Int),rawInt (ep:Int)],slots:=#[] }:=g2
    show h2.get? I=_
    rw [g2']
    simp
  | @drawn T ys h1 h2 =>
    have hall:∀ j∈ys,j < es.size:=λ j hj=>List.mem_range.mp (h1.mem_iff.mp hj)
    have key:∀ (l:List Nat),(∀ j∈l,j < es.size)->∀ m:Nat,(l.filterMap λ (i:Nat)=>es[i]?)[m]?=(l[m]?).bind λ (j:Nat)=>es[j]?:=by
      intro l
      induction l with
      | nil=>intro _ m; simp
      | cons x l ih =>
        intro hx m
        have hx0:=hx x List.mem_cons_self
        rw [List.filterMap_cons,Array.getElem?_eq_getElem hx0]
        cases m with
        | zero=>simp [Array.getElem?_eq_getElem hx0]
        | succ m=>simpa using ih (λ j hj=>hx j (List.mem_cons_of_mem _ hj)) m
    rw [key ys hall] at he
    obtain ⟨j,hj,hje⟩:=Option.bind_eq_some_iff.mp he
    show wpAny _ _ (seqItems? (.ref T)>>=_) _ _ s
    refine wpAny_bind (wpAny_seqItems h2 rfl ?_)
    have e3:(ys.map λ (i:Nat)=>rawInt (i:Int)).toArray[Int.toNat (i:Int)]?=some (rawInt (j:Int)):=by simp [hj]
    dsimp only
    rw [e3]
    dsimp only [rawInt]
    unfold setNextDrawn
    refine wpAny_bind (wpAny_bind (wpAny_setState_of ho rfl hf ?_))
    dsimp only
    rw [if_neg (by simp)]
    simp only [Int.toNat_natCast]
    rw [hje]
    refine wpAny_pure ?_
    refine wpAny_bind (wpAny_setField_rec hI (by simp) λ h1 g1 sb1=>?_)
    refine wpAny_pure ⟨_,rfl,wpAny_pure (hQ _ ?_ sb1)⟩
    have g2':h1.get? I=some { cls:=.type "set_iterator",dict:=none,data:=.fields #[.ref T,rawInt ((i:Int) + 1),.ref a,rawInt (es.size:Int),rawInt (ep:Int)],slots:=#[] }:=g1
    show h1.get? I=_
    rw [g2']
    simp
theorem stopped {s1:Shared} {h0:Heap} {Q:Option Value->Shared->Prop} (hh:A.handled=none) (sb:Heap.SameBut I h0 s1.heap) (hQ:∀ h',Heap.ExtBut I h0 h'->Q none { s1 with heap:=h' }) :
    wpAny (model prog w) A.in1 (newExc (.type "StopIteration") []>>=λ e=>raiseNew e) (λ fin s'=>∃ v,fin=Fin.done (.ret v)/\wpAny (model prog w) A (pure (some v)) Q E s') (λ e s'=>wpAny (model prog w) A (isInstance e (.type "StopIteration")>>=λ b=>if b=true then pure none else throw e) Q E s') s1:=by
  refine wpAny_bind ?_
  simp only [newExc,newTuple]
  refine wpAny_bind (wpAny_newObj_type ?_ (by size_fits))
  refine wpAny_bind (m:=firstArgMember _ _) (wpAny_of_eq (a:=Value.none) (by first | rfl | (simp only [firstArgMember]; rfl)) ?_)
  refine wpAny_newObj_type ?_ (by size_fits)
  simp only [raiseNew]
  refine wpAny_bind (wpAny_handled ?_)
  rw [show A.in1.handled=none from hh]
  refine wpAny_bind (wpAny_pure (wpAny_throw ?_))
  refine wpAny_bind (wpAny_isInstance (T:="StopIteration") (b:=true) ⟨_,Heap.get?_push_size _ rfl,rfl⟩ isSubtype_stop ?_)
  exact wpAny_pure (hQ _ ((sb.extBut.push _).push _))
theorem si_end {Q:Option Value->Shared->Prop} (hh:A.handled=none) (W:SetWay w a es ep t s.heap f ord ts) (hI:IsSetIter s.heap I a (f es.size) es.size es.size ep) (ho:IsSetObj s.heap a es ep t) (hf:t.fits es.size=true)
    (hQ:∀ h',Heap.ExtBut I s.heap h'->Q none { s with heap:=h' }):wpAny (model prog w) A (pyNext (.ref I)) Q E s:=by
  have hT:s.TypeIs (.ref I) "set_iterator":=⟨_,hI,rfl⟩
  unfold pyNext
  refine wpAny_bind (wpAny_attempt (wpAny_callSpecial?_slot (name:=Str.ofString "__next__") hT slot_si_next (wpAny_call_entry slot_si_next hT entry_si_next ?_ (args_si_next _))))
  show wpAny _ _ (fieldsOf (.ref I)>>=_) _ _ s
  refine wpAny_bind (wpAny_fieldsOf hI rfl ?_)
  dsimp only [rawInt]
  refine wpAny_bind (wpAny_setEntries_of ho rfl hf ?_)
  rw [if_neg (by simp)]
  cases W with
  | plain h1 h2 h3 h4 h5 =>
    have hb:SetTable.below t.place (if es.size=0 then 0 else t.place.getD (es.size - 1) 0 + 1)=es.size:=by
      cases hz:es.size with
      | zero=>exact below_zero _ h4
      | succ j =>
        have hj:j < t.place.size:=by omega
        have e1:t.place.getD j 0=t.place[j]:=by rw [Array.getD,dif_pos hj]; rfl
        simp only [Nat.add_one_ne_zero,if_false,Nat.add_sub_cancel]
        rw [e1]
        exact below_next _ h4 j hj
    show wpAny _ _ (setNext a (Int.toNat ((if es.size=0 then 0 else t.place.getD (es.size - 1) 0 + 1:Nat):Int)) (Int.toNat (es.size:Int)) (Int.toNat (ep:Int))>>=_) _ _ s
    simp only [Int.toNat_natCast]
    refine wpAny_bind (setNext_plain ho hf h1 h2 h3 ?_)
    rw [hb,Array.getElem?_eq_none (Nat.le_refl _)]
    dsimp only
    refine wpAny_bind (wpAny_setField_rec hI (by simp) λ h1 g1 sb1=>?_)
    exact stopped (s1:={ s with heap:=h1 }) hh sb1 hQ
  | text h1 =>
    show wpAny _ _ (setNext a (Int.toNat (0:Int)) (Int.toNat (es.size:Int)) (Int.toNat (ep:Int))>>=_) _ _ s
    simp only [Int.toNat_natCast]
    refine wpAny_bind (setNext_text ho hf h1 ?_)
    have hsz:(pickOrder (w.params.setOrder a ep) es).size=es.size:=by
      have:=(pick_perm (w.params.setOrder a ep) es).length_eq; simpa using this
    rw [Array.getElem?_eq_none (by rw [hsz]; exact Nat.le_refl _)]
    simp only [Option.map_none]
    refine wpAny_bind (wpAny_setField_rec hI (by simp) λ h1 g1 sb1=>?_)
    exact stopped (s1:={ s with heap:=h1 }) hh sb1 hQ
  | @drawn T ys h1 h2 =>
    have hl:ys.length=es.size:=by have:=h1.length_eq; simpa using this
    show wpAny _ _ (seqItems? (.ref T)>>=_) _ _ s
    refine wpAny_bind (wpAny_seqItems h2 rfl ?_)
    have e3:(ys.map λ (i:Nat)=>rawInt (i:Int)).toArray[Int.toNat (es.size:Int)]?=none:=by simp [hl]
    dsimp only
    rw [e3]
    dsimp only
    refine wpAny_bind (wpAny_setField_rec hI (by simp) λ h1 g1 sb1=>?_)
    refine wpAny_bind (wpAny_setField_rec (s:={ s with heap:=h1 }) g1 (by simp) λ h2 g2 sb2=>?_)
    exact stopped (s1:={ s with heap:=h2 }) hh (sb1.trans sb2) hQ
theorem si_self {s:Shared} {Q:Value->Shared->Prop} {i:Nat} {v:Value} {n:Nat} (hI:IsSetIter s.heap I a v i n ep) (h:Q (.ref I) s):wpAny (model prog w) A (pyIter (.ref I)) Q E s:=by
  have hT:s.TypeIs (.ref I) "set_iterator":=⟨_,hI,rfl⟩
  refine wpAny_pyIter_slot hT slot_si_iter (wpAny_call_entry slot_si_iter hT entry_si_iter ?_ (args_si_iter _))
  show wpAny _ _ (ret (.ref I)) _ _ s
  exact wpAny_pure ⟨_,rfl,"set_iterator",_,hT,slot_si_next.lookup,h⟩
theorem walks_set (hh:A.handled=none) (hIa:I≠a) (hIt:I∉ts) (hf:t.fits es.size=true) (hol:ord.length=es.size) :
    WalksS prog w A I (I::a::ts) [I] (λ x y=>y=x) es.size (λ i v=>∃ e,ord[i]?=some e/\v=e.2) (λ i s=>SetWay w a es ep t s.heap f ord ts/\IsSetIter s.heap I a (f i) i es.size ep/\IsSetObj s.heap a es ep t) where
  sub:=λ b hb=>by rw [List.mem_singleton.mp hb]; exact List.mem_cons_self
  grefl:=λ _=>rfl
  gtrans:=λ _ _ _ h1 h2=>h2.trans h1
  frame:=λ i s h' tk st _ k=>⟨st.1.at λ b hb o e=>k b (List.mem_cons_of_mem _ (List.mem_cons_of_mem _ hb)) o e,k I List.mem_cons_self _ st.2.1,k a (List.mem_cons_of_mem _ List.mem_cons_self) _ st.2.2⟩
  item:=λ i s Q E hi st hQ=>by
    obtain ⟨e,he⟩:∃ e,ord[i]?=some e:=⟨ord[i]'(by omega),List.getElem?_eq_getElem (by omega)⟩
    refine si_item st.1 st.2.1 st.2.2 hf he λ h' g sb=>hQ _ _ ⟨e,he,rfl⟩ ⟨st.1.at λ b hb o q=>(sb.2 b (λ z=>hIt (z ▸ hb))).trans q,g,(sb.2 a (Ne.symm hIa)).trans st.2.2⟩ ⟨λ b o hb q=>(sb.2 b (λ z=>hb (by rw [z]; exact List.mem_singleton.mpr rfl))).trans q,rfl,rfl,rfl,Nat.le_refl _⟩
  done:=λ s Q E st hQ=>si_end hh st.1 st.2.1 st.2.2 hf λ h' eb=>hQ _ ⟨λ b o hb q=>eb b o (λ z=>hb (by rw [z]; exact List.mem_singleton.mpr rfl)) q,rfl,rfl,rfl,Nat.le_refl _⟩
  self:=λ i s Q E st hQ=>si_self st.2.1 hQ
end
end
end Wy


namespace Wy
open PySem PySem.Spec PyProof.Rows L2
section
variable {prog:Program} {w:World} {A:Around} {E:Value->Shared->Prop} {s:Shared} {a:Addr} {es:Array (Int×Value)} {ep:Nat} {t:SetTable}
theorem set_iter {Q:Value->Shared->Prop} (ho:IsSetObj s.heap a es ep t) (hf:t.fits es.size=true) (ht:TOk (ledOf w) t) (hz:es.size<=sizeLine)
    (h:∀ h' I d f ord ts,SetWay w a es ep t h' f ord ts->IsSetIter h' I a (f 0) 0 es.size ep->s.heap.objs.size<=I->I < h'.objs.size->(∀ b∈ts,s.heap.objs.size<=b/\b≠I)->(∀ b o,s.heap.get? b=some o->h'.get? b=some o)->Q (.ref I) { s with heap:=h',drawn:=d }) :
    wpAny (model prog w) A (pyIter (.ref a)) Q E s:=by
  have hT:s.TypeIs (.ref a) "set":=⟨_,ho,rfl⟩
  refine wpAny_pyIter_slot hT PySem.F.slot_set_iter (wpAny_call_entry PySem.F.slot_set_iter hT entry_set_iter ?_ (PySem.F.args_set_iter_1 _))
  unfold Builtin.«frozenset.__iter__» Builtin.Frozenset.slot0 Builtin.Frozenset.addrOf Builtin.Frozenset.sizeOf setDrawn setsByText
  refine wpAny_bind (wpAny_bind (m:=slotArgs "__iter__" 0 ⟨[.ref a],[]⟩) (wpAny_pure (wpAny_pure ?_)))
  refine wpAny_bind (wpAny_bind (wpAny_setEntries_of ho rfl hf (wpAny_pure ?_)))
  refine wpAny_bind (wpAny_bind (wpAny_setState_of ho rfl hf ?_))
  dsimp only
  refine wpAny_bind (wpAny_bind (wpAny_askSetting (wpAny_pure (wpAny_pure ?_))))
  show wpAny _ _ (if (!byText w&&drw es t)=true then _ else _) _ _ s
  have fits:t.place.size=es.size:=by
    have:=hf; unfold SetTable.fits at this; simp at this; exact this.1
  by_cases hd:(!byText w&&drw es t)=true
  · rw [if_pos hd]
    refine wpAny_bind (drawOrderR _ _ _ _ (by simp) λ ys d hp=>?_)
    have hyl:ys.length=es.size:=by have:=hp.length_eq; simpa using this
    refine wpAny_bind (wpAny_newTuple ?_ (by rw [List.length_map,hyl]; exact hz))
    generalize hh1:s.heap.push { cls:=.type "tuple",data:=.seq (ys.map λ (i:Nat)=>rawInt (i:Int)).toArray }=h1
    have k1:∀ b o,s.heap.get? b=some o->h1.get? b=some o:=λ b o e=>by rw [<- hh1]; exact Heap.get?_push_of_some _ e
    have z1:h1.objs.size=s.heap.objs.size + 1:=by rw [<- hh1]; exact Heap.size_push ..
    have gT:h1.get? s.heap.objs.size=some { cls:=.type "tuple",data:=.seq (ys.map λ (i:Nat)=>rawInt (i:Int)).toArray }:=by rw [<- hh1]; exact Heap.get?_push_size _ rfl
    refine wpAny_bind (wpAny_setEpoch_of (s:={ s with heap:=h1,drawn:=d }) (k1 _ _ ho) rfl hf ?_)
    refine wpAny_bind (wpAny_newObj_type ?_)
    have gI:(h1.push { cls:=.type "set_iterator",data:=.fields #[.ref s.heap.objs.size,rawInt 0,.ref a,rawInt (es.size:Int),rawInt (ep:Int)] }).get? h1.objs.size=some { cls:=.type "set_iterator",data:=.fields #[.ref s.heap.objs.size,rawInt 0,.ref a,rawInt (es.size:Int),rawInt (ep:Int)] }:=Heap.get?_push_size _ rfl
    refine wpAny_pure ⟨_,rfl,"set_iterator",_,⟨_,gI,rfl⟩,slot_si_next.lookup,?_⟩
    refine h _ h1.objs.size d _ _ _ (.drawn hp (Heap.get?_push_of_some _ gT)) gI (by omega) (by rw [Heap.size_push]; exact Nat.lt_succ_self _) (λ b hb=>?_) λ b o e=>Heap.get?_push_of_some _ (k1 b o e)
    rw [List.mem_singleton.mp hb]
    exact ⟨Nat.le_refl _,by rw [z1]; exact Nat.ne_of_lt (Nat.lt_succ_self _)⟩
  · rw [if_neg hd]
    refine wpAny_bind (wpAny_pure ?_)
    refine wpAny_bind (wpAny_setEpoch_of ho rfl hf ?_)
    refine wpAny_bind (wpAny_newObj_type ?_)
    have gI:(s.heap.push { cls:=.type "set_iterator",data:=.fields #[rawInt 0,rawInt 0,.ref a,rawInt (es.size:Int),rawInt (ep:Int)] }).get? s.heap.objs.size=some { cls:=.type "set_iterator",data:=.fields #[rawInt 0,rawInt 0,.ref a,rawInt (es.size:Int),rawInt (ep:Int)] }:=Heap.get?_push_size _ rfl
    refine wpAny_pure ⟨_,rfl,"set_iterator",_,⟨_,gI,rfl⟩,slot_si_next.lookup,?_⟩
    have done:∀ f ord,SetWay w a es ep t (s.heap.push { cls:=.type "set_iterator",data:=.fields #[rawInt 0,rawInt 0,.ref a,rawInt (es.size:Int),rawInt (ep:Int)] }) f ord []->f 0=rawInt 0->Q (.ref s.heap.objs.size) { s with heap:=s.heap.push { cls:=.type "set_iterator",data:=.fields #[rawInt 0,rawInt 0,.ref a,rawInt (es.size:Int),rawInt (ep:Int)] } }:=λ f ord W hf0 =>
      h _ s.heap.objs.size s.drawn f ord [] W (by rw [hf0]; exact gI) (Nat.le_refl _) (by rw [Heap.size_push]; exact Nat.lt_succ_self _) (λ b hb=>absurd hb (by simp)) λ b o e=>Heap.get?_push_of_some _ e
    cases hb:byText w with
    | true=>exact done _ _ (.text hb) rfl
    | false =>
      rw [hb] at hd
      exact done _ _ (.plain hb (by simpa using hd) (by rw [ht.led]; unfold ledOf; rw [show w.params.followText "set-order"=false from hb]; rfl) ht.ris fits) rfl
theorem items_ord {ord:List (Int×Value)} {acc:Array Value} {n:Nat} (h:ItemsOf (λ i v=>∃ e,ord[i]?=some e/\v=e.2) acc n) (hn:ord.length=n):acc.toList=ord.map (·.2):=by
  obtain ⟨h1,h2⟩:=h
  refine List.ext_getElem? λ i=>?_
  rw [List.getElem?_map,Array.getElem?_toList]
  by_cases hi:i < n
  · have q:=h2 i acc[i] (Array.getElem?_eq_getElem (by omega))
    obtain ⟨e,he,hv⟩:=q
    rw [Array.getElem?_eq_getElem (by omega),he,hv]
    rfl
  · rw [Array.getElem?_eq_none (by omega),List.getElem?_eq_none (by omega)]
    rfl
theorem collect_set {Q:List Value->Shared->Prop} (hh:A.handled=none) (ho:IsSetObj s.heap a es ep t) (hf:t.fits es.size=true) (ht:TOk (ledOf w) t) (hz:es.size<=sizeLine)
    (h:∀ (s':Shared) (ord:List (Int×Value)),ord.Perm es.toList->s'.gens=s.gens->s'.os=s.os->(∀ b o,s.heap.get? b=some o->s'.heap.get? b=some o)->Q (ord.map (·.2)) s'):wpAny (model prog w) A (collect (.ref a)) Q E s:=by
  have hT:s.TypeIs (.ref a) "set":=⟨_,ho,rfl⟩
  unfold collect
  refine wpAny_bind (wpAny_runValue (codeAny_builtin PySem.F.entry_proto_collect ?_))
  rw [Around.under_plainId PySem.F.plain_proto_collect _]
  show wpAny _ A.in1 (newList []>>=λ l=>again (.builtin "list.__iadd__" ⟨[l,.ref a],[]⟩)) _ _ s
  refine wpAny_bind (wpAny_newObj_type ?_)
  refine wpAny_pure ⟨plainId_quiet PySem.F.plain_list_iadd _,codeAny_builtin PySem.F.entry_list_iadd ?_⟩
  rw [Around.under_plainId PySem.F.plain_list_iadd _]
  generalize hh1:s.heap.push { cls:=.type "list",dict:=none,data:=.seq ([]:List Value).toArray }=h1
  have k1:∀ b o,s.heap.get? b=some o->h1.get? b=some o:=λ b o e=>by rw [<- hh1]; exact Heap.get?_push_of_some _ e
  have z1:h1.objs.size=s.heap.objs.size + 1:=by rw [<- hh1]; exact Heap.size_push ..
  have gS:h1.get? s.heap.objs.size=some { cls:=.type "list",dict:=none,data:=.seq ([]:List Value).toArray }:=by rw [<- hh1]; exact Heap.get?_push_size _ rfl
  have ho1:IsSetObj h1 a es ep t:=k1 _ _ ho
  have hT1:Shared.TypeIs { s with heap:=h1 } (.ref a) "set":=⟨_,ho1,rfl⟩
  have hne:s.heap.objs.size≠a:=Nat.ne_of_gt (Heap.lt_size ho)
  have e1:Builtin.List.listSameRef (.ref s.heap.objs.size) (.ref a)=false:=by simp [Builtin.List.listSameRef,hne]
  show wpAny _ A.in1 (Builtin.List.listExtendWith (.ref s.heap.objs.size) (.ref a) (.ref s.heap.objs.size)) _ _ _
  unfold Builtin.List.listExtendWith
  refine wpAny_bind (wpAny_typeOf hT1 ?_)
  rw [if_neg (by rw [e1]; decide)]
  refine wpAny_bind (set_iter (s:={ s with heap:=h1 }) ho1 hf ht hz λ h2 I d f ord ts W gI leI ltI hts k2=>?_)
  have ho2:IsSetObj h2 a es ep t:=k2 _ _ ho1
  have hT2:Shared.TypeIs { s with heap:=h2,drawn:=d } (.ref a) "set":=⟨_,ho2,rfl⟩
  refine wpAny_bind (wpAny_holding ?_)
  unfold Builtin.List.listLengthHint
  refine wpAny_bind (wpAny_specialOf hT2 PySem.F.slot_set_len.lookup ?_)
  generalize hid:("set.__len__":String)=id0
  (fail_if_success (clear hid id0))
  wp_delta
  rw [show splitId id0=some ("set","__len__") from by subst hid; decide +kernel]
  subst hid
  refine wpAny_bind (wpAny_isInstance (b:=true) hT2 (by rw [isSubtype_type]; kernel_rfl) ?_)
  rw [if_neg (by decide)]
  dsimp only
  rw [if_pos (by decide +kernel)]
  refine wpAny_bind (wpAny_typeOf hT2 ?_)
  refine wpAny_pure ?_
  rw [if_pos (by decide +kernel)]
  refine wpAny_bind (wpAny_rule ?_)
  unfold Builtin.List.listTouch
  have gS2:h2.get? s.heap.objs.size=some { cls:=.type "list",dict:=none,data:=.seq ([]:List Value).toArray }:=k2 _ _ gS
  refine wpAny_bind (wpAny_bind (listUpdate_at gS2 rfl ?_))
  have gS3:=get?_update_seq gS2 (·.push .none)
  refine listUpdate_at gS3 rfl ?_
  have gS4:=get?_update_seq gS3 (·.pop)
  have leI':s.heap.objs.size + 1<=I:=by rw [<- z1]; exact leI
  have hSI:s.heap.objs.size≠I:=Nat.ne_of_lt leI'
  have hts':∀ b∈ts,s.heap.objs.size + 1<=b:=λ b hb=>by rw [<- z1]; exact (hts b hb).1
  have hSf:s.heap.objs.size∉I::a::ts:=λ z=>by
    rcases List.mem_cons.mp z with z | z
    · exact hSI z
    · rcases List.mem_cons.mp z with z | z
      · exact hne z
      · exact absurd (hts' _ z) (Nat.not_succ_le_self _)
  have hIa:I≠a:=λ z=>absurd (Nat.lt_of_lt_of_le (Heap.lt_size ho) (Nat.le_of_succ_le leI')) (by rw [z]; exact Nat.lt_irrefl _)
  have hIt:I∉ts:=λ z=>(hts I z).2 rfl
  have hol:ord.length=es.size:=by have:=W.perm.length_eq; simpa using this
  generalize hh4:(h2.update s.heap.objs.size (Obj.mapSeq λ x=>x.push Value.none)).update s.heap.objs.size (Obj.mapSeq λ x=>x.pop)=h4 at gS4
  have k4:∀ b o,b≠s.heap.objs.size->h2.get? b=some o->h4.get? b=some o:=λ b o n e=>by
    rw [<- hh4]
    exact ((Heap.SameBut.update ..).2 b n).trans (((Heap.SameBut.update ..).2 b n).trans e)
  refine wpAny_pure ⟨plainId_quiet PySem.F.plain_extend_loop _,codeAny_extend_loopS (walks_set (A:=A.in1) (I:=I) (f:=f) (ord:=ord) (ts:=ts) (ep:=ep) (t:=t) (es:=es) (a:=a) (show A.in1.handled=none from hh) hIa hIt hf hol) hz _ hSf _ es.size 0 _ #[] 2 (by omega) (Nat.zero_le _)
    ⟨W.at λ b hb o e=>?_,?_,?_⟩ ?_ (ItemsOf.nil _) λ s' acc c' hm hS' hacc=>?_⟩
  · show Heap.get? _ b=some o
    have:=k4 b o (λ z=>absurd (hts' b hb) (by rw [z]; exact Nat.not_succ_le_self _)) e
    exact this
  · have:=k4 I _ (Ne.symm hSI) gI
    exact this
  · have:=k4 a _ (Ne.symm hne) ho2
    exact this
  · have g5:h4.get? s.heap.objs.size=some { cls:=.type "list",dict:=none,data:=.seq #[] 2,slots:=#[] }:=gS4
    exact g5
  · show wpAny _ A (load s.heap.objs.size>>=_) _ _ s'
    refine wpAny_bind (wpAny_load hS' ?_)
    refine wpAny_pure ?_
    rw [items_ord hacc hol]
    refine h s' ord W.perm hm.gens hm.os λ b o e=>?_
    have nb:b≠s.heap.objs.size:=Nat.ne_of_lt (Heap.lt_size e)
    have nI:b≠I:=λ z=>absurd (Nat.lt_of_lt_of_le (Heap.lt_size e) (Nat.le_of_succ_le leI')) (by rw [z]; exact Nat.lt_irrefl _)
    have:=k4 b o nb (k2 b o (k1 b o e))
    exact hm.heap b o (by simp [nb,nI]) this
end
end Wy


namespace Wy
open PySem PySem.Spec PyProof.Rows L2
theorem keys_ints {prog:Program} {w:World} {ks:List Int} {l:List (Int×Value)} (h:KL (intKind prog w) ks l):IntsAre (l.map (·.2)) ks:=by
  induction h with
  | nil=>exact .nil
  | cons a _ ih =>
    obtain ⟨t,e⟩:=Value.isInt_shape a
    rw [List.map_cons,e]
    exact .cons _ _ ih
theorem keys_strs {prog:Program} {w:World} {ks:List Str} {l:List (Int×Value)} (h:KL (PySem.strKind prog w) ks l):StrsAre (l.map (·.2)) ks:=by
  induction h with
  | nil=>exact .nil
  | cons a _ ih =>
    obtain ⟨t,e⟩:=Value.isStrOf_shape a
    rw [List.map_cons,e]
    exact .cons _ _ ih
section
variable {prog:Program} {w:World} {A:Around} {E:Value->Shared->Prop} {s:Shared} {a:Addr}
theorem sorted_set_int {ks:List Int} {Q:Value->Shared->Prop} (hh:A.handled=none) (hS:SetK (intKind prog w) s.heap a (ledOf w) ks) (h64:ks.length < 64)
    (h:∀ (s1:Shared) (h':Heap) (out:Array Value) (n:Nat) (ns':List Int),s1.gens=s.gens->s1.os=s.os->(∀ b o,s.heap.get? b=some o->s1.heap.get? b=some o)->(∀ b o,s1.heap.get? b=some o->h'.get? b=some o)->h'.get? s1.heap.objs.size=some (seqObj "list" out n) ->
      IntsAre out.toList ns'->ns'.Perm ks->ns'.Pairwise (·<=·)->Q (.ref s1.heap.objs.size) { s1 with heap:=h' }) :
    wpAny (model prog w) A (call (.builtin "sorted") [.ref a]) Q E s:=by
  obtain ⟨es,⟨ep,t,ho,hel,hb,hf,ht⟩,hK,hnd⟩:=hS
  have hsz:es.size=ks.length:=by rw [<- Array.length_toList,hK.length]
  refine Calls.call_function_entry kind_sorted plain_sorted entry_sorted (args_sorted1 _) ?_
  unfold Builtin.«sorted»
  refine wpAny_bind (m:=checkCount "sorted" 1 1 _) (wpAny_pure ?_)
  refine wpAny_bind (collect_set ?hh ho hf ht (fits_of_scanBound hb) λ s1 ord hp g1 o1 k1=>?_)
  case hh=>exact hh
  obtain ⟨ks',p1,hK'⟩:=KL.perm hp.symm hK
  have hI:=keys_ints hK'
  have hl:(ord.map (·.2)).length < 64:=by rw [List.length_map,hp.length_eq,Array.length_toList,hsz]; exact h64
  refine wpAny_bind (wpAny_newList ?_ (by rw [sizeLine_eq]; omega))
  have gL:(s1.heap.push (seqObj "list" (ord.map (·.2)).toArray 0)).get? s1.heap.objs.size=some (seqObj "list" (ord.map (·.2)).toArray 0):=Heap.get?_push_size _ rfl
  refine wpAny_bind (wpAny_holding (wpAny_call_entry slot_list_sort ⟨_,gL,rfl⟩ entry_list_sort (list_sort_tree (s:={ s1 with heap:=s1.heap.push (seqObj "list" (ord.map (·.2)).toArray 0) }) gL hI hl λ out ns' a1 a2 a3=>⟨_,rfl,?_⟩) (args_list_sort _)))
  obtain ⟨n,gn⟩:=sortedHeap_at (out:=out) gL
  refine wpAny_pure ⟨_,rfl,h s1 _ _ n ns' g1 o1 k1 (λ b o q=>?_) gn a1 (a2.trans p1.symm) a3⟩
  have lt:=Heap.lt_size q
  exact (sortedHeap_old (Nat.ne_of_lt lt) (by rw [size_push']; exact Nat.lt_succ_of_lt lt)).trans (Heap.get?_push_of_some _ q)
theorem sorted_set_str {ks:List Str} {Q:Value->Shared->Prop} (hh:A.handled=none) (hS:SetK (PySem.strKind prog w) s.heap a (ledOf w) ks) (h64:ks.length < 64)
    (h:∀ (s1:Shared) (h':Heap) (out:Array Value) (n:Nat) (ns':List Str),s1.gens=s.gens->s1.os=s.os->(∀ b o,s.heap.get? b=some o->s1.heap.get? b=some o)->(∀ b o,s1.heap.get? b=some o->h'.get? b=some o)->h'.get? s1.heap.objs.size=some (seqObj "list" out n) ->
      StrsAre out.toList ns'->ns'.Perm ks->sortedS ns'=true->Q (.ref s1.heap.objs.size) { s1 with heap:=h' }) :
    wpAny (model prog w) A (call (.builtin "sorted") [.ref a]) Q E s:=by
  obtain ⟨es,⟨ep,t,ho,hel,hb,hf,ht⟩,hK,hnd⟩:=hS
  have hsz:es.size=ks.length:=by rw [<- Array.length_toList,hK.length]
  refine Calls.call_function_entry kind_sorted plain_sorted entry_sorted (args_sorted1 _) ?_
  unfold Builtin.«sorted»
  refine wpAny_bind (m:=checkCount "sorted" 1 1 _) (wpAny_pure ?_)
  refine wpAny_bind (collect_set ?hh ho hf ht (fits_of_scanBound hb) λ s1 ord hp g1 o1 k1=>?_)
  case hh=>exact hh
  obtain ⟨ks',p1,hK'⟩:=KL.perm hp.symm hK
  have hI:=keys_strs hK'
  have hl:(ord.map (·.2)).length < 64:=by rw [List.length_map,hp.length_eq,Array.length_toList,hsz]; exact h64
  refine wpAny_bind (wpAny_newList ?_ (by rw [sizeLine_eq]; omega))
  have gL:(s1.heap.push (seqObj "list" (ord.map (·.2)).toArray 0)).get? s1.heap.objs.size=some (seqObj "list" (ord.map (·.2)).toArray 0):=Heap.get?_push_size _ rfl
  refine wpAny_bind (wpAny_holding (wpAny_call_entry slot_list_sort ⟨_,gL,rfl⟩ entry_list_sort (list_sort_treeK (s:={ s1 with heap:=s1.heap.push (seqObj "list" (ord.map (·.2)).toArray 0) }) strKind_oneLt gL hI.keysOf (λ v₁ v₂ rest e=>keyKind_strs (by rw [<- e]; exact hI)) hl λ st' hp1 hs1=>⟨_,rfl,?_⟩) (args_list_sort _)))
  obtain ⟨ns',a1,a2,a3⟩:=sorted_out_str hI hp1 hs1
  obtain ⟨n,gn⟩:=sortedHeap_at (out:=(arrOf st').map (·.2)) gL
  refine wpAny_pure ⟨_,rfl,h s1 _ _ n ns' g1 o1 k1 (λ b o q=>?_) gn a1 (a2.trans p1.symm) a3⟩
  have lt:=Heap.lt_size q
  exact (sortedHeap_old (Nat.ne_of_lt lt) (by rw [size_push']; exact Nat.lt_succ_of_lt lt)).trans (Heap.get?_push_of_some _ q)
end
end Wy


namespace Wy
open PySem PySem.Spec PyProof.Rows L2 HT
def ded {K:Type} [DecidableEq K]:List K->List K
  | []=>[]
  | x::xs=>if x∈ded xs then ded xs else x::ded xs
theorem ded_mem {K:Type} [DecidableEq K] {k:K}:∀ {xs:List K},k∈ded xs↔k∈xs
  | []=>Iff.rfl
  | x::xs=>by
    unfold ded
    split
    · rename_i h
      rw [ded_mem (xs:=xs),List.mem_cons]
      exact ⟨.inr,λ z=>z.elim (λ e=>by rw [e]; exact ded_mem.mp h) id⟩
    · rw [List.mem_cons,List.mem_cons,ded_mem (xs:=xs)]
theorem ded_nodup {K:Type} [DecidableEq K]:∀ (xs:List K),(ded xs).Nodup
  | []=>.nil
  | x::xs=>by
    unfold ded
    split
    · exact ded_nodup xs
    · rename_i h
      exact List.nodup_cons.mpr ⟨h,ded_nodup xs⟩
theorem ded_perm {K:Type} [DecidableEq K] {ks xs:List K} (h:ks.Nodup) (hm:∀ k,k∈ks↔k∈xs):ks.Perm (ded xs) :=
  (List.perm_ext_iff_of_nodup h (ded_nodup xs)).mpr λ k=>(hm k).trans ded_mem.symm
theorem mem_getD {K:Type} {xs:List K} {d:K} {k:K}:(∃ j,j < xs.length/\xs.getD j d=k)↔k∈xs:=by
  constructor
  · rintro ⟨j,hj,rfl⟩
    rw [List.getD_eq_getElem?_getD,List.getElem?_eq_getElem hj]
    exact List.getElem_mem hj
  · intro h
    obtain ⟨j,hj,e⟩:=List.mem_iff_getElem.mp h
    exact ⟨j,hj,by rw [List.getD_eq_getElem?_getD,List.getElem?_eq_getElem hj]; exact e⟩
section
variable {X:Cx} {pins:List (Addr×Obj)} {σ:L2.St} {H:Hp} {s:Shared}
theorem Inv.keptD {h':Heap} {t':Nat} {d':Drawn} (I:L2.Inv X pins σ H s) (kp:∀ b o,s.heap.get? b=some o->h'.get? b=some o):L2.Inv X pins σ H { s with heap:=h',drawn:=d',toks:=t' }:=by
  refine I.step (g':=s.gens) (d':=d') (ch:=[]) (λ b hb=>absurd hb (by simp)) (λ b o _ _ hc g _=>kp b o g) (λ b o _ _ hc g _=>⟨o.slots,kp b o g⟩) (λ b o _ g n=>n)
    (λ b o hc g=>⟨o,kp b o g⟩) (λ b ys g=>g) (λ b o ys g=>g) (λ b ps g=>⟨#[],by rw [g]; simp⟩) (λ m hm=>?_) (λ b o g=>?_) I.bare
  · obtain ⟨o,es,ep,g,r⟩:=hm
    exact ⟨o,es,ep,kp _ o g,r⟩
  · exact (I.hok b o g).stay (λ c v hc gv=>kp c v gv) (λ c gc=>gc) λ c ys gc=>gc
def setExt {K:Type} [DecidableEq K] (X:Cx) (knd:PySem.KeyKind X.prog X.w K) (S:Addr) (ks:List K):HO:=.ext λ h=>SetK knd h S (ledOf X.w) ks
theorem setExt_ok {K:Type} [DecidableEq K] {knd:PySem.KeyKind X.prog X.w K} {S:Addr} {ks:List K} {h:Heap} {H:Hp} (hS:SetK knd h S (ledOf X.w) ks):ObjOk X.prog X.w H h S (setExt X knd S ks) :=
  ⟨hS,by obtain ⟨es,⟨ep,t,ho,_⟩,_⟩:=hS; exact ⟨_,ho⟩,λ h1 h2 q k=>by
    obtain ⟨es,hs,r⟩:=q
    exact ⟨es,hs.at k,r⟩⟩
def SqB (K:PySem.W.Frag) (b:Bool) (H:Hp) (a:Addr) (vs:List V):Prop:=match b with
  | true=>SqT K H a vs
  | false=>SqL K H a vs
theorem call_setK {K:Type} [DecidableEq K] (knd:PySem.KeyKind X.prog X.w K) (mk:K->V) (d:K) (hmk:∀ k u,RelV (mk k) u->knd.is k u=true/\u.scannable=true) (hc:X.calm=true) :
    CallR X (.type "set") (λ xs H Q=>∃ (b:Bool) (p:Addr) (ns:List K),xs=[.ref p]/\SqB X.K b H p (ns.map mk)/\ns.length < 64/\∀ S ks,H S=none->ks.Perm (ded ns)->Q (.ref S) (upd H S (setExt X knd S ks))):=by
  rintro pins s σ H xs us Q I rv ⟨b,p,ns,rfl,hs,hl,q⟩
  obtain ⟨u,rfl,ru⟩:=rv.one
  obtain rfl:u=Value.ref p:=ru
  have main:∀ its:List Value,Vals (ns.map mk) its->(∀ i v,its.toArray[i]?=some v->knd.is (ns.getD i d) v=true/\v.scannable=true):=λ its vv i v hv=>by
    have hv':its[i]?=some v:=by simpa using hv
    have hlen:=vv.length
    rw [List.length_map] at hlen
    have hi:i < ns.length:=by rw [hlen]; exact (List.getElem?_eq_some_iff.mp hv').1
    obtain ⟨u,hu,ru⟩:=vv.get (i:=i) (x:=mk ns[i]) (by rw [List.getElem?_map,List.getElem?_eq_getElem hi]; rfl)
    rw [hv'] at hu
    cases hu
    rw [List.getD_eq_getElem?_getD,List.getElem?_eq_getElem hi]
    exact hmk _ _ ru
  have fin:∀ (its:List Value),Vals (ns.map mk) its->∀ (h':Heap) (tk:Nat) (ks:List K),SetK knd h' s.heap.objs.size (ledOf X.w) ks->ks.length<=its.toArray.size->(∀ k,k∈ks↔∃ j,j < its.toArray.size/\ns.getD j d=k) ->
      (∀ b o,b < s.heap.objs.size->s.heap.get? b=some o->h'.get? b=some o)->EP X pins σ Q (.ref s.heap.objs.size) { s with heap:=h',toks:=tk }:=λ its vv h' tk ks hS hlen hmem kp=>by
    have hn:=vv.length
    rw [List.length_map] at hn
    refine ⟨.ref s.heap.objs.size,_,I.laid (t':=tk) (o:=setExt X knd s.heap.objs.size ks) (λ b o e=>kp b o (Heap.lt_size e) e) (Nat.le_refl _) (setExt_ok hS),rfl,q _ ks I.fresh ?_⟩
    obtain ⟨es,h1,h2,h3⟩:=hS
    refine ded_perm h3 λ k=>(hmem k).trans ?_
    rw [<- mem_getD (xs:=ns) (d:=d)]
    simp [hn]
  cases b with
  | true =>
    obtain ⟨its,vv,pl,_⟩:=I.tuple hs
    have hlen:=vv.length
    rw [List.length_map] at hlen
    exact call_set_T (knd:=knd) (I.ok.hd hc) (show s.heap.IsTuple p its.toArray from pl) (main its vv) (by show its.toArray.size + 1 < scanBound; unfold scanBound; simp; omega) (fin its vv)
  | false =>
    obtain ⟨its,vv,pl,_⟩:=I.list hs
    have hlen:=vv.length
    rw [List.length_map] at hlen
    exact call_set_L (knd:=knd) (I.ok.hd hc) pl.isList (main its vv) (by show its.toArray.size + 1 < scanBound; unfold scanBound; simp; omega) (fin its vv)
theorem call_sortI (hc:X.calm=true):CallR X (.builtin "sorted") (λ xs H Q=>∃ (S:Addr) (ks:List Int),xs=[.ref S]/\H S=some (setExt X (intKind X.prog X.w) S ks)/\ks.length < 64/\∀ l,H l=none->Q (.ref l) (upd H l (.lst ((srt ks).map V.int)))):=by
  rintro pins s σ H xs us Q I rv ⟨S,ks,rfl,hS,hl,q⟩
  obtain ⟨u,rfl,ru⟩:=rv.one
  obtain rfl:u=Value.ref S:=ru
  have hs:=(I.hok S _ hS).1
  refine sorted_set_int (I.ok.hd hc) hs hl λ s1 h' out n ns' g1 o1 k1 k2 gr a1 a2 a3=>?_
  obtain ⟨h1,gs,dr,tk,os⟩:=s1
  cases g1
  cases o1
  have I1:=Inv.keptD (d':=dr) (t':=tk) I k1
  have e:=srt_uniq a2 a3
  subst e
  refine ⟨.ref h1.objs.size,_,I1.laid (t':=tk) (o:=.lst ((srt ks).map V.int)) (λ b o e=>k2 b o e) (Nat.le_refl _) ⟨?_,out.toList,n,vals_ints a1,by simpa using gr⟩,rfl,q _ (I1.hok.fresh (Nat.le_refl _))⟩
  rw [List.length_map,(srt_perm ks).length_eq]
  exact Nat.le_trans (Nat.le_of_lt hl) (by decide)
end
end Wy


namespace Wy
open PySem PySem.Spec PyProof.Rows L2 HT
def leT (a b:Str):Prop:=a.cps.toList<=b.cps.toList
theorem leT_iff {a b:Str}:ltCps b.cps.toList a.cps.toList=false↔leT a b:=by
  rw [ltCps_eq]
  unfold leT
  rw [decide_eq_false_iff_not]
  exact List.not_lt
theorem leT_trans {a b c:Str} (h1:leT a b) (h2:leT b c):leT a c:=List.le_trans h1 h2
theorem leT_anti {a b:Str} (h1:leT a b) (h2:leT b a):a=b:=by
  have e:=List.le_antisymm h1 h2
  obtain ⟨x⟩:=a
  obtain ⟨y⟩:=b
  have:x=y:=Array.toList_inj.mp e
  rw [this]
theorem rising_pw:∀ (x:Str) (r:List Str),risingS x r=true->(x::r).Pairwise leT
  | x,[],_=>by simp
  | x,y::r,h=>by
    unfold risingS at h
    rw [Bool.and_eq_true,Bool.not_eq_true'] at h
    have ih:=rising_pw y r h.2
    have hxy:=leT_iff.mp h.1
    refine List.pairwise_cons.mpr ⟨λ z hz=>?_,ih⟩
    rcases List.mem_cons.mp hz with rfl | hz
    · exact hxy
    · exact leT_trans hxy ((List.pairwise_cons.mp ih).1 z hz)
theorem sortedS_pw {l:List Str} (h:sortedS l=true):l.Pairwise leT:=by
  cases l with
  | nil=>exact .nil
  | cons x r=>exact rising_pw x r h
def srtT (ss:List Str):List Str:=ss.mergeSort (λ a b=>!ltCps b.cps.toList a.cps.toList)
theorem srtT_perm (ss:List Str):(srtT ss).Perm ss:=List.mergeSort_perm ss _
theorem leT_total (a b:Str):leT a b∨leT b a:=List.le_total _ _
theorem srtT_sorted (ss:List Str):(srtT ss).Pairwise leT:=by
  have h:∀ a b:Str,(!ltCps b.cps.toList a.cps.toList)=true↔leT a b:=λ a b=>by rw [Bool.not_eq_true']; exact leT_iff
  have:=List.pairwise_mergeSort (le:=λ a b:Str=>!ltCps b.cps.toList a.cps.toList) (λ a b c h1 h2=>(h a c).mpr (leT_trans ((h a b).mp h1) ((h b c).mp h2)))
    (λ a b=>by rw [Bool.or_eq_true,h,h]; exact leT_total a b) ss
  exact this.imp λ q=>(h _ _).mp q
theorem srtT_uniq {ss ms:List Str} (h:ms.Perm ss) (hs:ms.Pairwise leT):ms=srtT ss :=
  List.Perm.eq_of_pairwise (λ a b _ _ h1 h2=>leT_anti h1 h2) hs (srtT_sorted ss) (h.trans (srtT_perm ss).symm)
theorem vals_strsT:∀ {us:List Value} {ns:List Str},StrsAre us ns->Vals (ns.map V.str) us
  | _,_,.nil=>.nil
  | _,_,.cons n t r=>.cons ⟨_,rfl⟩ (vals_strsT r)
section
variable {X:Cx}
theorem call_sortT (hc:X.calm=true):CallR X (.builtin "sorted") (λ xs H Q=>∃ (S:Addr) (ks:List Str),xs=[.ref S]/\H S=some (setExt X (PySem.strKind X.prog X.w) S ks)/\ks.length < 64/\∀ l,H l=none->Q (.ref l) (upd H l (.lst ((srtT ks).map V.str)))):=by
  rintro pins s σ H xs us Q I rv ⟨S,ks,rfl,hS,hl,q⟩
  obtain ⟨u,rfl,ru⟩:=rv.one
  obtain rfl:u=Value.ref S:=ru
  have hs:=(I.hok S _ hS).1
  refine sorted_set_str (I.ok.hd hc) hs hl λ s1 h' out n ns' g1 o1 k1 k2 gr a1 a2 a3=>?_
  obtain ⟨h1,gs,dr,tk,os⟩:=s1
  cases g1
  cases o1
  have I1:=Inv.keptD (d':=dr) (t':=tk) I k1
  have e:=srtT_uniq a2 (sortedS_pw a3)
  subst e
  refine ⟨.ref h1.objs.size,_,I1.laid (t':=tk) (o:=.lst ((srtT ks).map V.str)) (λ b o e=>k2 b o e) (Nat.le_refl _) ⟨?_,out.toList,n,vals_strsT a1,by simpa using gr⟩,rfl,q _ (I1.hok.fresh (Nat.le_refl _))⟩
  rw [List.length_map,(srtT_perm ks).length_eq]
  exact Nat.le_trans (Nat.le_of_lt hl) (by decide)
theorem srt_congr {a b:List Int} (h:a.Perm b):srt a=srt b:=srt_uniq ((srt_perm a).trans h) (srt_sorted a)
theorem srtT_congr {a b:List Str} (h:a.Perm b):srtT a=srtT b:=srtT_uniq ((srtT_perm a).trans h) (srtT_sorted a)
theorem ded_len {K:Type} [DecidableEq K]:∀ (xs:List K),(ded xs).length<=xs.length
  | []=>Nat.le_refl _
  | x::xs=>by
    have:=ded_len xs
    unfold ded
    split <;> simp <;> omega
variable {W:XP} {e:Expr} {fs:Ga->R (Bool×List D)} {pos pos' p2 p3:Pos}
def sortSetD (ds:List D):Option (List D):=match asIs ds with
  | some ns=>if ns.length < 64 then some ((srt (ded ns)).map D.int) else none
  | none=>match asSs ds with
    | some ss=>if ss.length < 64 then some ((srtT (ded ss)).map D.str) else none
    | none=>none
def oSortSet (fs:Ga->R (Bool×List D)):Ga->R (List D):=λ Γ=>(fs Γ).bind λ p=>.ofO (sortSetD p.2)
theorem ow_sortset (hc:X.calm=true) (hg:Gl X "sorted") (hm:X.mg "sorted"=none) (hg2:Gl X "set") (hm2:X.mg "set"=none) (ha:SqD X W e fs)
    (hs:starEach [e] X.env=[(false,eval e X.env)]:=by rfl) (hs2:starEach [.Call (.Name "set" p3) [e] [] pos'] X.env=[(false,eval (.Call (.Name "set" p3) [e] [] pos') X.env)]:=by rfl) :
    OwD X W (.Call (.Name "sorted" p2) [.Call (.Name "set" p3) [e] [] pos'] [] pos) (oSortSet fs):=by
  obtain ⟨t,p,q⟩:=ha
  have kI:∀ (k:Int) (u:Value),RelV (.int k) u->(intKind X.prog X.w).is k u=true/\u.scannable=true:=λ k u ⟨tk,h⟩=>by
    subst h; exact ⟨intKind_is _ _ _ _,rfl⟩
  have kS:∀ (k:Str) (u:Value),RelV (.str k) u->(PySem.strKind X.prog X.w).is k u=true/\u.scannable=true:=λ k u ⟨tk,h⟩=>by
    subst h; exact ⟨by simp [PySem.strKind,Value.isStrOf],rfl⟩
  refine ⟨_,pe_callB ((call_sortI hc).or (call_sortT hc)) hg hm boot_sorted (pa_cons (pe_callTy ((call_setK (intKind X.prog X.w) V.int 0 kI hc).or (call_setK (PySem.strKind X.prog X.w) V.str "" kS hc)) hg2 hm2 boot_set (pa_cons p pa_nil hs) (by decide) (by decide) hs rfl) pa_nil hs2) (by decide) (by decide) hs2 rfl,λ H₀ G₀ Γ σ H G R Q w=>?_⟩
  refine q _ _ _ _ _ _ R _ (wStep w (λ _ h=>h) λ pp w a vs H1 G1 E1 s1 l1=>?_)
  obtain ⟨ds,e2,w⟩:=wOfO w
  obtain ⟨b,xs⟩:=pp
  have sq:SqB X.K b H1 a vs:=by
    cases b with
    | true=>exact Same.seqT E1.gh s1
    | false=>exact s1
  unfold sortSetD at e2
  dsimp only at e2
  split at e2
  · rename_i ns e3
    split at e2
    · rename_i hl
      cases e2
      have:=asIs_den l1 e3
      subst this
      refine .inl ⟨b,a,ns,rfl,sq,hl,λ S ks hS hp=>.inl ⟨S,ks,rfl,upd_same,?_,λ r hr=>?_⟩⟩
      · rw [hp.length_eq]; exact Nat.lt_of_le_of_lt (ded_len ns) hl
      · rw [srt_congr hp]
        have E2:Ext H1 G1 (upd H1 S (setExt X (intKind X.prog X.w) S ks)) G1:=.own E1.gh hS _
        have E3:=Ext.own (p:=r) E2.gh hr (.lst ((srt (ded ns)).map V.int))
        have nS:r≠S:=λ z=>by rw [z,upd_same] at hr; cases hr
        have hr1:H1 r=none:=by rw [upd_ne nS] at hr; exact hr
        exact w r _ _ G1 (E1.trans (E2.trans E3)) (E1.hh.free hr1) upd_same (E1.gh.free hr1) (denL_ints _)
    · cases e2
  · split at e2
    · rename_i ss e3
      split at e2
      · rename_i hl
        cases e2
        have:=asSs_den l1 e3
        subst this
        refine .inr ⟨b,a,ss,rfl,sq,hl,λ S ks hS hp=>.inr ⟨S,ks,rfl,upd_same,?_,λ r hr=>?_⟩⟩
        · rw [hp.length_eq]; exact Nat.lt_of_le_of_lt (ded_len ss) hl
        · rw [srtT_congr hp]
          have E2:Ext H1 G1 (upd H1 S (setExt X (PySem.strKind X.prog X.w) S ks)) G1:=.own E1.gh hS _
          have E3:=Ext.own (p:=r) E2.gh hr (.lst ((srtT (ded ss)).map V.str))
          have nS:r≠S:=λ z=>by rw [z,upd_same] at hr; cases hr
          have hr1:H1 r=none:=by rw [upd_ne nS] at hr; exact hr
          exact w r _ _ G1 (E1.trans (E2.trans E3)) (E1.hh.free hr1) upd_same (E1.gh.free hr1) (denL_strs _)
      · cases e2
    · cases e2
end
end Wy


namespace Wy
open PySem PySem.Spec PyProof.Rows L2 HT
section
variable {X:Cx}
theorem call_rangeR:CallR X (.type "range") (λ xs H Q=>∃ j:Int,xs=[.int j]/\0<=j/\j < 16000000/\∀ S,H S=none->Q (.ref S) (upd H S (.rng 0 j))):=by
  rintro pins s σ H xs us Q I rv ⟨j,rfl,h0,hj,q⟩
  obtain ⟨u,rfl,ru⟩:=rv.one
  obtain ⟨t,rfl⟩:=ru
  exact call_range_1 ⟨.ref s.heap.objs.size,_,I.laid (t':=s.toks + 1 + 1) (o:=.rng 0 j) (λ b o e=>Heap.get?_push_of_some _ e) (Nat.le_refl _) ⟨_,_,_,Heap.get?_push_size _ rfl⟩,rfl,q _ I.fresh⟩
def rngL (n:Nat):List Int:=(List.range n).map λ (k:Nat)=>(k:Int)
theorem items_rng {acc:Array Value} {n:Nat} (h:ItemsOf (λ i v=>∃ t,v=.int (0 + (i:Int) * 1) t) acc n):Vals ((rngL n).map V.int) acc.toList:=by
  obtain ⟨h1,h2⟩:=h
  have key:∀ (l:List Value) (xs:List V),l.length=xs.length->(∀ (i:Nat) (v:Value) (x:V),l[i]?=some v->xs[i]?=some x->RelV x v)->Vals xs l:=by
    intro l
    induction l with
    | nil=>intro xs hl _; cases xs with
      | nil=>exact .nil
      | cons _ _=>cases hl
    | cons a l ih=>intro xs hl hr; cases xs with
      | nil=>cases hl
      | cons x xs=>exact .cons (hr 0 a x rfl rfl) (ih xs (by simpa using hl) λ i v y e1 e2=>hr (i + 1) v y (by simpa using e1) (by simpa using e2))
  refine key _ _ (by simp [rngL,h1]) λ i v x e1 e2=>?_
  obtain ⟨t,rfl⟩:=h2 i v (by simpa using e1)
  have hi:i < n:=by
    have:=(List.getElem?_eq_some_iff.mp e1).1
    simp [h1] at this
    exact this
  have e3:((rngL n).map V.int)[i]?=some (.int (i:Int)):=by simp [rngL,List.getElem?_range hi]
  rw [e3] at e2
  cases e2
  exact ⟨t,by simp⟩
theorem call_listR (hc:X.calm=true):CallR X (.type "list") (λ xs H Q=>∃ (S:Addr) (j:Int),xs=[.ref S]/\H S=some (.rng 0 j)/\0<=j/\j < 16000000/\∀ l,H l=none->Q (.ref l) (upd H l (.lst ((rngL j.toNat).map V.int)))):=by
  rintro pins s σ H xs us Q I rv ⟨S,j,rfl,hS,h0,hj,q⟩
  obtain ⟨u,rfl,ru⟩:=rv.one
  obtain rfl:u=Value.ref S:=ru
  obtain ⟨t,u,v,ho⟩:=I.hok S _ hS
  have hsz:Builtin.Range.rangeSize 0 j 1=((j.toNat:Nat):Int):=by rw [rangeSize_one]; split <;> omega
  refine call_list_range (I.ok.hd hc) ho (small_one (by omega) (by omega) (by omega) (by omega)) hsz (by omega) λ h' tk acc c kp gl hacc=>?_
  refine ⟨.ref s.heap.objs.size,_,I.laid (t':=tk) (o:=.lst ((rngL j.toNat).map V.int)) kp (Nat.le_refl _) ⟨?_,acc.toList,c,items_rng hacc,by simpa using gl⟩,rfl,q _ I.fresh⟩
  have:j.toNat<=16000000:=by omega
  show ((rngL j.toNat).map V.int).length<=sizeLine
  rw [sizeLine_eq,List.length_map]
  unfold rngL
  rw [List.length_map,List.length_range]
  omega
variable {W:XP} {e:Expr} {f:Ga->R D} {pos pos' p2 p3:Pos}
def rngD (d:D):Option (List D):=match d with
  | .int j=>if 0<=j/\j < 16000000 then some ((rngL j.toNat).map D.int) else none
  | _=>none
def oListRng (f:Ga->R D):Ga->R (List D):=λ Γ=>(f Γ).bind λ d=>.ofO (rngD d)
theorem ow_listrng (hc:X.calm=true) (hg:Gl X "list") (hm:X.mg "list"=none) (hg2:Gl X "range") (hm2:X.mg "range"=none) (ha:EvD X W e f)
    (hs:starEach [e] X.env=[(false,eval e X.env)]:=by rfl) (hs2:starEach [.Call (.Name "range" p3) [e] [] pos'] X.env=[(false,eval (.Call (.Name "range" p3) [e] [] pos') X.env)]:=by rfl) :
    OwD X W (.Call (.Name "list" p2) [.Call (.Name "range" p3) [e] [] pos'] [] pos) (oListRng f):=by
  obtain ⟨t,p,q⟩:=ha
  refine ⟨_,pe_callTy (call_listR hc) hg hm boot_list (pa_cons (pe_callTy call_rangeR hg2 hm2 boot_range (pa_cons p pa_nil hs) (by decide) (by decide) hs rfl) pa_nil hs2) (by decide) (by decide) hs2 rfl,λ H₀ G₀ Γ σ H G R Q w=>?_⟩
  refine q _ _ _ _ _ _ R _ (wStep w (λ _ h=>h) λ d w v H1 G1 E1 d1=>?_)
  obtain ⟨ds,e2,w⟩:=wOfO w
  unfold rngD at e2
  split at e2
  · rename_i j
    split at e2
    · rename_i hj
      cases e2
      cases den_intE d1
      refine ⟨j,rfl,hj.1,hj.2,λ S hS=>⟨S,j,rfl,upd_same,hj.1,hj.2,λ r hr=>?_⟩⟩
      have E2:Ext H1 G1 (upd H1 S (.rng 0 j)) G1:=.own E1.gh hS _
      have E3:=Ext.own (p:=r) E2.gh hr (.lst ((rngL j.toNat).map V.int))
      have nS:r≠S:=λ z=>by rw [z,upd_same] at hr; cases hr
      have hr1:H1 r=none:=by rw [upd_ne nS] at hr; exact hr
      exact w r _ _ G1 (E1.trans (E2.trans E3)) (E1.hh.free hr1) upd_same (E1.gh.free hr1) (denL_ints _)
    · cases e2
  · cases e2
end
end Wy


namespace Lw
open PySem PySem.Spec PyProof.Rows L2 Wy Wl
abbrev N_q1:List Str:=["_law_yard_here","_law_world","_law_some"]
noncomputable def L_q1_2:Ga->RS:=(sSeq (sIf (tOrR (tNotR (tTru (eIsi gTuple (eV 2)))) (tB (e2 neD (eO (oList (sV 2))) (eO (oSortSet (sV 2)))))) (sRet (eC (.bl false))) sNext) (sIf (tNotR (tTru (eS allS (sO (cpR (iT (eV 2)) cTrue (eAnd (eIsi gInt (eV 0)) (eAnd (eNot (eIsi gBool (eV 0))) (e3 (int2 λ i j=>some (.bl (decide (i<=j)))) ltD (eC (.int 0)) (eV 0) (eB lenD (aCons (eV 2) aNil)))))))))) (sRet (eC (.bl false))) sNext))
noncomputable def L_q1_1:Ga->RS:=(sSeq (sIf (tOrR (tNotR (tTru (eIsi gTuple (eV 1)))) (tOrR (tB (e2 neD (eB lenD (aCons (eV 1) aNil)) (eC (.int 2)))) (tNotR (tTru (eIsi gTuple (e2 ixD (eV 1) (eC (.int 0)))))))) (sRet (eC (.bl false))) sNext) (sSeq (sIf (tOrR (tB (e2 neD (eO (oList (sE (e2 ixD (eV 1) (eC (.int 0)))))) (eO (oSortSet (sE (e2 ixD (eV 1) (eC (.int 0)))))))) (tOrR (tNotR (tTru (eIsi gTuple (e2 ixD (eV 1) (eC (.int 1)))))) (tB (e2 neD (eB lenD (aCons (e2 ixD (eV 1) (eC (.int 1))) aNil)) (eC (.int 3)))))) (sRet (eC (.bl false))) sNext) (sFor (iT (e2 ixD (eV 1) (eC (.int 1)))) (gName' 2) (L_q1_2))))
noncomputable def B_q1:Ga->RS:=(sSeq (sIf (tOrR (tNotR (tTru (eIsi gTuple (eV 0)))) (tB (e2 eqD (eB lenD (aCons (eV 0) aNil)) (eC (.int 0))))) (sRet (eC (.bl false))) sNext) (sSeq (sFor (iT (eV 0)) (gName' 1) (L_q1_1)) (sRet (eC (.bl true)))))
noncomputable def M_q1:List D->R D:=λ ds=>callR N_q1 (B_q1) ds
end Lw


namespace L11
open PySem PySem.Spec PyProof.Rows L2 Wy Wl Lw
abbrev N_law:List Str:=["_law_script","_law_own","_law_yard_here","_law_found","_law_least","_law_kept","_law_k","_law_world","_law_ways","_law_cell_here","_law_saying_here"]
noncomputable def L_law_1:Ga->RS:=(sSeq (sSet 8 (eO (cpR (iT (e2 ixD (e2 ixD (eV 2) (eV 7)) (eC (.int 1)))) cTrue (eS tupS (sO (oSortSet (sO (cpR (iT (eV 0)) cTrue (eIndex (sV 9) (e2 ixD (eV 8) (eV 0))))))))))) (sSeq (sIf (tB (e2 neD (e2 ixD (eV 3) (eV 6)) (eTup (aCons (e2 ixD (e2 ixD (eV 2) (eV 7)) (eC (.int 0))) (aCons (eS tupS (sV 8)) aNil))))) (sRet (eC (.bl false))) sNext) (sIf (tAndR (tB (e2 eqD (eV 1) (eC (.int 1)))) (tNotR (tTru (eS allS (sO (cpR (iT (e2 ixD (e2 ixD (eV 3) (eV 6)) (eC (.int 1)))) cTrue (e2 memA (eV 8) (eV 0)))))))) (sRet (eC (.bl false))) sNext)))
noncomputable def L_law_3 (M_q4:List D->R D):Ga->RS:=(sIf (tB (e2 neD (eCall M_q4 (aCons (eV 2) (aCons (eV 6) (aCons (eV 10) aNil)))) (eCall M_q4 (aCons (eV 3) (aCons (eIndex (sV 5) (e2 ixD (eV 4) (eV 6))) (aCons (eV 10) aNil)))))) (sRet (eC (.bl false))) sNext)
noncomputable def L_law_2 (M_q2:List D->R D) (M_q4:List D->R D):Ga->RS:=(sSeq (sSet 10 (eCall M_q2 (aCons (eV 9) (aCons (eC (.int 4)) aNil)))) (sFor (iR1 (aCons (eB lenD (aCons (eV 2) aNil)) aNil)) (gName' 6) (L_law_3 M_q4)))
noncomputable def B_law (M_q7:List D->R D) (M_q9:List D->R D) (M_q14:List D->R D) (M_q10:List D->R D) (M_q1:List D->R D) (M_q2:List D->R D) (M_q4:List D->R D):Ga->RS:=(sSeq (sSet 1 (e2 (int2 modI) (eCall M_q7 (aCons (eV 0) (aCons (eC (.int 8)) aNil))) (eC (.int 2)))) (sSeq (sSet 2 (eCall M_q9 (aCons (eV 0) (aCons (eC (.int 0)) (aCons (eV 1) aNil))))) (sSeq (sSet 3 (eCall M_q14 (aCons (eV 2) aNil))) (sSeq (sSet 4 (eCall M_q10 (aCons (eV 2) aNil))) (sSeq (sSet 5 (eO (cpR (iR1 (aCons (eB lenD (aCons (eV 2) aNil)) aNil)) (tB (e2 eqD (e2 ixD (eV 6) (eV 0)) (eV 0))) (eV 0)))) (sSeq (sIf (tOrR (tNotR (tTru (eCall M_q1 (aCons (eV 3) aNil)))) (tB (e2 neD (eB lenD (aCons (eV 3) aNil)) (eB lenD (aCons (eV 5) aNil))))) (sRet (eC (.bl false))) sNext) (sSeq (sFor (iE (eV 5)) (gTwo (gName' 6) (gName' 7)) (L_law_1)) (sSeq (sIf (tOrR (tB (e2 neD (eCall M_q14 (aCons (eV 3) aNil)) (eV 3))) (tB (e2 neD (eCall M_q10 (aCons (eV 3) aNil)) (eS tupS (sO (oListRng (eB lenD (aCons (eV 3) aNil)))))))) (sRet (eC (.bl false))) sNext) (sSeq (sFor (iL (eO (oSl (sV 0) (oI (eC (.int 9))) (oI (eC (.int 14)))))) (gName' 9) (L_law_2 M_q2 M_q4)) (sRet (eC (.bl true))))))))))))
end L11


namespace Wy
open PySem PySem.Spec PyProof.Rows L2
theorem hkL_cons {n:Nat} {d:D} {ds:List D}:hkL n (d::ds)=(hk n d&&hkL n ds):=by conv=>lhs; unfold hkL
theorem hk_tup {n:Nat} {ds:List D} (h:hk n (.tup ds)=true):∃ m,n=m + 1/\hkL m ds=true:=by
  cases n with
  | zero=>unfold hk at h; cases h
  | succ m=>unfold hk at h; exact ⟨m,rfl,h⟩
theorem hk_bl {n:Nat} {b:Bool} (h:hk n (.bl b)=true):False:=by cases n <;> (unfold hk at h; cases h)
theorem hk_lst {n:Nat} {ds:List D} (h:hk n (.lst ds)=true):False:=by cases n <;> (unfold hk at h; cases h)
theorem hDL_cons {w:World} {d:D} {ds:List D}:hDL w (d::ds)=hD w d::hDL w ds:=by conv=>lhs; unfold hDL
theorem hDL_append {w:World}:∀ (a b:List D),hDL w (a++b)=hDL w a++hDL w b
  | [],b=>by
    have e:hDL w []=[]:=by unfold hDL; rfl
    rw [e]; rfl
  | d::a,b=>by rw [List.cons_append,hDL_cons,hDL_cons,hDL_append a b]; rfl
theorem hash_non {prog:Program} {w:World} {A:Around} {E:Value->Shared->Prop} {s:Shared} {Q:Int->Shared->Prop} (h:∀ tk,Q 4238894112 { s with toks:=tk }):wpAny (model prog w) A (pyHash .none) Q E s:=by
  have ty:s.TypeIs .none "NoneType":=rfl
  unfold pyHash pyHashByItsType
  refine wpAny_bind (wpAny_cRoomFor_or (.inl rfl) (wpAny_bind (wpAny_specialOf ty F.slot_NoneType_hash.lookup ?_)))
  refine wpAny_ite_split (λ z=>absurd z (by rw [beq_builtin_none]; exact Bool.false_ne_true)) λ _=>?_
  refine wpAny_bind (wpAny_specialOf ty F.slot_NoneType_hash.lookup ?_)
  show wpAny _ _ (callSpecialIfBoundUnlessNone? .none "__hash__" _>>=_) Q E s
  refine wpAny_bind (wpAny_callSpecialIfBoundUnlessNone?_slot ty F.slot_NoneType_hash (wpAny_call_entry F.slot_NoneType_hash ty F.entry_NoneType_hash ?_ (F.args_NoneType_hash_1 _)))
  refine wpAny_ret_mkInt ?_
  exact wpAny_pure (h _)
section
variable {X:Cx} {pins:List (Addr×Obj)} {σ:L2.St} {H G:Hp}
theorem hash_D:∀ (n:Nat) (d:D) (v:V) (u:Value) (s:Shared) (A:Around) (E:Value->Shared->Prop) (Q:Int->Shared->Prop),Inv X pins σ H s->Same G H->hk n d=true->A.units + n < cLine->Den X.K G d v->RelV v u ->
    (∀ tk,Q (hD X.w d) { s with toks:=tk })->wpAny (model X.prog X.w) A (pyHash u) Q E s:=by
  intro n
  induction n with
  | zero =>
    intro d v u s A E Q I g hh hA hd r q
    cases d with
    | int i=>cases den_intE hd; obtain ⟨t,rfl⟩:=r; unfold hD at q; exact wpAny_pyHash_int (q _)
    | str x=>cases den_strE hd; obtain ⟨t,rfl⟩:=r; unfold hD at q; exact wpAny_pyHash_str (q _)
    | non=>cases den_nonE hd; obtain rfl:u=Value.none:=r; unfold hD at q; exact hash_non q
    | bl b=>exact (hk_bl hh).elim
    | lst ds=>exact (hk_lst hh).elim
    | tup ds=>obtain ⟨m,e,_⟩:=hk_tup hh; cases e
  | succ n ih =>
    intro d v u s A E Q I g hh hA hd r q
    cases d with
    | int i=>cases den_intE hd; obtain ⟨t,rfl⟩:=r; unfold hD at q; exact wpAny_pyHash_int (q _)
    | str x=>cases den_strE hd; obtain ⟨t,rfl⟩:=r; unfold hD at q; exact wpAny_pyHash_str (q _)
    | non=>cases den_nonE hd; obtain rfl:u=Value.none:=r; unfold hD at q; exact hash_non q
    | bl b=>exact (hk_bl hh).elim
    | lst ds=>exact (hk_lst hh).elim
    | tup ds =>
      obtain ⟨m,e,hds⟩:=hk_tup hh
      cases e
      obtain ⟨a,vs,rfl,sq,l⟩:=den_tup.mp hd
      obtain rfl:u=Value.ref a:=r
      obtain ⟨its,rv,⟨ob,ho,hc,c,hs⟩,_⟩:=I.tuple (Same.seqT g sq)
      have ty:s.TypeIs (.ref a) "tuple":=⟨ob,ho,hc⟩
      unfold pyHash pyHashByItsType
      refine wpAny_bind (wpAny_cRoomFor_or (.inr (by omega)) (wpAny_bind (wpAny_specialOf ty F.slot_tuple_hash.lookup ?_)))
      refine wpAny_ite_split (λ z=>absurd z (by rw [beq_builtin_none]; exact Bool.false_ne_true)) λ _=>?_
      refine wpAny_bind (wpAny_specialOf ty F.slot_tuple_hash.lookup ?_)
      show wpAny _ _ (callSpecialIfBoundUnlessNone? (.ref a) "__hash__" _>>=λ _=>_) Q E s
      refine wpAny_bind (wpAny_callSpecialIfBoundUnlessNone?_slot ty F.slot_tuple_hash (wpAny_call_entry F.slot_tuple_hash ty F.entry_tuple_hash ?_ (F.args_tuple_hash_1 _)))
      show wpAny _ A.in1 (Builtin.Tuple.tupleItemsOf (.ref a)>>=λ _=>_) _ _ s
      refine wpAny_bind (wpAny_tupleItemsOf ho hs (wpAny_bind ?_))
      rw [<- Array.forIn_toList]
      refine wpAny_forIn_list _ (λ rest (b:Array Int) s'=>∃ done left ws,ds=done++left/\hkL n left=true/\DenL X.K G left ws/\Vals ws rest/\b.toList=hDL X.w done/\∃ tk,s'={ s with toks:=tk }) _ ?_ ?_ _ _
        ⟨[],ds,vs,rfl,hds,l,by simpa using rv,by unfold hDL; rfl,s.toks,rfl⟩
      · rintro x rest b s' ⟨done,left,ws,rfl,hl,dl,vl,hb,tk,rfl⟩
        cases left with
        | nil=>rw [denL_nil.mp dl] at vl; cases vl
        | cons d left =>
          obtain ⟨v',r',rfl,d1,d2⟩:=denL_cons.mp dl
          cases vl with
          | cons rx vr =>
            rw [hkL_cons,Bool.and_eq_true] at hl
            refine wpAny_bind (ih d v' x _ A.in1 _ _ (I.tok tk) g hl.1 (by show A.units + 1 + n < cLine; omega) d1 rx λ tk'=>?_)
            exact wpAny_pure ⟨done++[d],left,r',by simp,hl.2,d2,vr,by rw [hDL_append,<- hb]; simp [hDL],tk',rfl⟩
      · rintro b s' ⟨done,left,ws,rfl,hl,dl,vl,hb,tk,rfl⟩
        cases vl
        have e0:left=[]:=by
          cases left with
          | nil=>rfl
          | cons d left=>obtain ⟨v',r',z,_⟩:=denL_cons.mp dl; cases z
        subst e0
        rw [List.append_nil] at q
        unfold hD reduceHash at q
        show wpAny _ _ (retInt (Builtin.Tuple.tupleHashOf b.toList)) _ _ _
        rw [hb]
        refine wpAny_ret_mkInt ?_
        show wpAny _ _ (if (decide (-(2:Int) ^ 63<=Builtin.Tuple.tupleHashOf (hDL X.w done))&&decide (Builtin.Tuple.tupleHashOf (hDL X.w done) < 2 ^ 63))=true then _ else _) Q E _
        split
        · rename_i z
          rw [if_pos z] at q
          exact wpAny_pure (q _)
        · rename_i z
          rw [if_neg z] at q
          exact wpAny_bind (wpAny_rule (wpAny_pure (q _)))
theorem quiet_D:∀ (n:Nat) (d:D) (v:V) (u:Value) (s:Shared) (A:Around) (E:Value->Shared->Prop) (Q:Bool->Shared->Prop),Inv X pins σ H s->Same G H->hk n d=true->Den X.K G d v->RelV v u ->
    Q true s->wpAny (model X.prog X.w) A (eqIsQuiet n u) Q E s:=by
  have flat:∀ (n:Nat) (u:Value) (s:Shared) (A:Around) (E:Value->Shared->Prop) (Q:Bool->Shared->Prop),carriedByValue u=true->Q true s->wpAny (model X.prog X.w) A (eqIsQuiet n u) Q E s:=λ n u s A E Q hu q=>by
    rw [eqIsQuiet_byValue n hu]; exact wpAny_pure q
  intro n
  induction n with
  | zero =>
    intro d v u s A E Q I g hh hd r q
    cases d with
    | int i=>cases den_intE hd; obtain ⟨t,rfl⟩:=r; exact flat _ _ _ _ _ _ rfl q
    | str x=>cases den_strE hd; obtain ⟨t,rfl⟩:=r; exact flat _ _ _ _ _ _ rfl q
    | non=>cases den_nonE hd; obtain rfl:u=Value.none:=r; exact flat _ _ _ _ _ _ rfl q
    | bl b=>exact (hk_bl hh).elim
    | lst ds=>exact (hk_lst hh).elim
    | tup ds=>obtain ⟨m,e,_⟩:=hk_tup hh; cases e
  | succ n ih =>
    intro d v u s A E Q I g hh hd r q
    cases d with
    | int i=>cases den_intE hd; obtain ⟨t,rfl⟩:=r; exact flat _ _ _ _ _ _ rfl q
    | str x=>cases den_strE hd; obtain ⟨t,rfl⟩:=r; exact flat _ _ _ _ _ _ rfl q
    | non=>cases den_nonE hd; obtain rfl:u=Value.none:=r; exact flat _ _ _ _ _ _ rfl q
    | bl b=>exact (hk_bl hh).elim
    | lst ds=>exact (hk_lst hh).elim
    | tup ds =>
      obtain ⟨m,e,hds⟩:=hk_tup hh
      cases e
      obtain ⟨a,vs,rfl,sq,l⟩:=den_tup.mp hd
      obtain rfl:u=Value.ref a:=r
      obtain ⟨its,rv,⟨ob,ho,hc,c,hs⟩,_⟩:=I.tuple (Same.seqT g sq)
      have ty:s.TypeIs (.ref a) "tuple":=⟨ob,ho,hc⟩
      unfold eqIsQuiet
      refine wpAny_bind (wpAny_specialOf ty F.slot_tuple_eq.lookup ?_)
      show wpAny _ _ (isInstance (.ref a) (.type "tuple")>>=λ _=>_) _ _ s
      refine wpAny_bind (wpAny_isInstance ty isSubtype_tuple_tuple ?_)
      refine wpAny_ite_split (λ z=>absurd z (by decide)) λ _=>?_
      refine wpAny_bind (wpAny_seqItems ho hs (wpAny_bind ?_))
      show wpAny _ _ (forIn its.toArray _ _) _ _ s
      rw [<- Array.forIn_toList]
      refine wpAny_forIn_list _ (λ rest b s'=>b.1=none/\s'=s/\∃ left ws,hkL n left=true/\DenL X.K G left ws/\Vals ws rest) _ ?_ ?_ _ _ ⟨rfl,rfl,ds,vs,hds,l,by simpa using rv⟩
      · rintro x rest b s' ⟨hb,rfl,left,ws,hl,dl,vl⟩
        cases left with
        | nil=>rw [denL_nil.mp dl] at vl; cases vl
        | cons d left =>
          obtain ⟨v',r',rfl,d1,d2⟩:=denL_cons.mp dl
          cases vl with
          | cons rx vr =>
            rw [hkL_cons,Bool.and_eq_true] at hl
            refine wpAny_bind (ih d v' x _ A _ _ I g hl.1 d1 rx ?_)
            exact wpAny_ite_split (λ z=>absurd z (by decide)) λ _=>wpAny_pure ⟨rfl,rfl,left,r',hl.2,d2,vr⟩
      · rintro ⟨b1,b2⟩ s' ⟨hb,rfl,_⟩
        cases hb
        exact wpAny_pure q
end
end Wy


namespace Wy
open PySem PySem.Spec PyProof.Rows L2
mutual
theorem hk_eq:(n m:Nat)->(a b:D)->hk n a=true->hk m b=true->eqDD a b=true->a=b
  | n,m,.non,b,_,hb,e=>by cases b <;> (unfold eqDD at e; first | rfl | cases e)
  | n,m,.bl x,b,ha,_,_=>(hk_bl ha).elim
  | n,m,.int x,b,_,hb,e=>by
    cases b with
    | int y=>unfold eqDD at e; rw [eq_of_beq e]
    | bl y=>exact (hk_bl hb).elim
    | _=>unfold eqDD at e; cases e
  | n,m,.str x,b,_,_,e=>by
    cases b with
    | str y=>unfold eqDD at e; rw [eq_of_beq e]
    | _=>unfold eqDD at e; cases e
  | n,m,.tup xs,b,ha,hb,e=>by
    cases b with
    | tup ys =>
      obtain ⟨n',_,ha⟩:=hk_tup ha
      obtain ⟨m',_,hb⟩:=hk_tup hb
      unfold eqDD at e
      rw [hkL_eq n' m' xs ys ha hb e]
    | _=>unfold eqDD at e; cases e
  | n,m,.lst xs,b,ha,_,_=>(hk_lst ha).elim
theorem hkL_eq:(n m:Nat)->(a b:List D)->hkL n a=true->hkL m b=true->eqDL a b=true->a=b
  | n,m,[],[],_,_,_=>rfl
  | n,m,[],y::ys,_,_,e=>by unfold eqDL at e; cases e
  | n,m,x::xs,[],_,_,e=>by unfold eqDL at e; cases e
  | n,m,x::xs,y::ys,ha,hb,e=>by
    rw [hkL_cons,Bool.and_eq_true] at ha hb
    unfold eqDL at e
    rw [Bool.and_eq_true] at e
    rw [hk_eq n m x y ha.1 hb.1 e.1,hkL_eq n m xs ys ha.2 hb.2 e.2]
end
mutual
theorem hk_dep:(n:Nat)->(d:D)->hk n d=true->depD d<=n
  | n,.non,_=>by unfold depD; exact Nat.zero_le _
  | n,.bl _,h=>(hk_bl h).elim
  | n,.int _,_=>by unfold depD; exact Nat.zero_le _
  | n,.str _,_=>by unfold depD; exact Nat.zero_le _
  | n,.lst _,h=>(hk_lst h).elim
  | n,.tup ds,h=>by
    obtain ⟨m,rfl,h⟩:=hk_tup h
    unfold depD
    exact Nat.succ_le_succ (hkL_dep m ds h)
theorem hkL_dep:(n:Nat)->(ds:List D)->hkL n ds=true->depDL ds<=n
  | n,[],_=>by unfold depDL; exact Nat.zero_le _
  | n,d::ds,h=>by
    rw [hkL_cons,Bool.and_eq_true] at h
    unfold depDL
    exact Nat.max_le.mpr ⟨hk_dep n d h.1,hkL_dep n ds h.2⟩
end
def kIx (k:D) (kvs:List (D×D)):Option Nat:=kvs.findIdx? λ p=>eqDD p.1 k
theorem ents_len {w:World}:∀ {kvs:List (D×D)} {es:List (V×V)} {xs:List DictEntry},EntsOk w kvs es xs->kvs.length=xs.length/\es.length=xs.length
  | [],[],[],_=>⟨rfl,rfl⟩
  | _::_,_::_,_::_,h=>by
    have:=ents_len h.2
    simp [this.1,this.2]
  | [],[],_::_,h=>h.elim
  | [],_::_,[],h=>h.elim
  | [],_::_,_::_,h=>h.elim
  | _::_,[],_,h=>h.elim
  | _::_,_::_,[],h=>h.elim
theorem ents_get {w:World} {K:PySem.W.Frag} {G:Hp}:∀ {kvs:List (D×D)} {es:List (V×V)} {xs:List DictEntry},EntsOk w kvs es xs->DenK K G kvs es->∀ (i:Nat) (e:DictEntry),xs[i]?=some e ->
    ∃ p q,kvs[i]?=some p/\es[i]?=some q/\(e.hash=hD w p.1/\RelV q.1 e.key/\RelV q.2 e.val)/\Den K G p.1 q.1/\Den K G p.2 q.2
  | p::ps,q::qs,x::xs,h,d,0,e,he=>by
    cases he
    exact ⟨p,q,rfl,rfl,h.1,d.1⟩
  | p::ps,q::qs,x::xs,h,d,i + 1,e,he=>by
    obtain ⟨p',q',h1,h2,h3⟩:=ents_get h.2 d.2 i e (by simpa using he)
    exact ⟨p',q',by simpa using h1,by simpa using h2,h3⟩
  | [],[],[],_,_,i,e,he=>by simp at he
  | [],[],_::_,h,_,_,_,_=>h.elim
  | [],_::_,[],h,_,_,_,_=>h.elim
  | [],_::_,_::_,h,_,_,_,_=>h.elim
  | _::_,[],_,h,_,_,_,_=>h.elim
  | _::_,_::_,[],h,_,_,_,_=>h.elim
section
variable {X:Cx} {pins:List (Addr×Obj)} {σ:L2.St} {H G:Hp} {s:Shared} {A:Around} {E:Value->Shared->Prop}
structure Seek (X:Cx) (G:Hp) (s:Shared) (A:Around) (d:Addr) (o:Obj) (xs:Array DictEntry) (ep:Nat) (kvs:List (D×D)) (es:List (V×V)) (k:D) (u:Value):Prop where
  ho:s.heap.get? d=some o
  hd:o.data=.dict xs ep
  en:EntsOk X.w kvs es xs.toList
  dk:DenK X.K G kvs es
  ko:KOk kvs
  hkk:hk 8 k=true
  hu:A.units + 20 < cLine
  eq:∀ (i:Nat) (e:DictEntry) (p:D×D),xs[i]?=some e->kvs[i]?=some p->∀ (E:Value->Shared->Prop) (Q:Bool->Shared->Prop),Q (eqDD p.1 k) s->wpAny (model X.prog X.w) A (eqBool e.key u) Q E s
  qk:∀ (E:Value->Shared->Prop) (Q:Bool->Shared->Prop),Q true s->wpAny (model X.prog X.w) A (eqIsQuiet 8 u) Q E s
  qe:∀ (i:Nat) (e:DictEntry),xs[i]?=some e->∀ (E:Value->Shared->Prop) (Q:Bool->Shared->Prop),Q true s->wpAny (model X.prog X.w) A (eqIsQuiet 8 e.key) Q E s
  same:∀ (i:Nat) (e:DictEntry) (p:D×D),xs[i]?=some e->kvs[i]?=some p->e.key=u->p.1=k
  st:∀ x t,u=.str x t->∀ (i:Nat) (e:DictEntry) (p:D×D),xs[i]?=some e->kvs[i]?=some p->e.key.isStr x=eqDD p.1 k
variable {d:Addr} {o:Obj} {xs:Array DictEntry} {ep:Nat} {kvs:List (D×D)} {es:List (V×V)} {k:D} {u:Value}
theorem Seek.mk' (I:Inv X pins σ H s) (g:Same G H) {v:V} (ho:s.heap.get? d=some o) (hd:o.data=.dict xs ep) (en:EntsOk X.w kvs es xs.toList) (dk:DenK X.K G kvs es) (ko:KOk kvs) (hkk:hk 8 k=true) (hu:A.units + 20 < cLine)
    (dv:Den X.K G k v) (rv:RelV v u):Seek X G s A d o xs ep kvs es k u where
  ho:=ho
  hd:=hd
  en:=en
  dk:=dk
  ko:=ko
  hkk:=hkk
  hu:=hu
  eq:=λ i e p he hp E Q q=>by
    obtain ⟨p',q',h1,h2,⟨h3,h4,h5⟩,h6,h7⟩:=ents_get en dk i e (by simpa using he)
    rw [hp] at h1; cases h1
    exact (eqAt_D I g 8 p.1 k _ _ _ _ A (hk_dep _ _ (ko.2 p (List.mem_of_getElem? hp))) (by omega) h6 dv h4 rv).1 X.prog X.w E Q q
  qk:=λ E Q q=>quiet_D 8 k v u s A E Q I g hkk dv rv q
  qe:=λ i e he E Q q=>by
    obtain ⟨p',q',h1,h2,⟨h3,h4,h5⟩,h6,h7⟩:=ents_get en dk i e (by simpa using he)
    exact quiet_D 8 p'.1 _ e.key s A E Q I g (ko.2 p' (List.mem_of_getElem? h1)) h6 h4 q
  same:=λ i e p he hp z=>by
    obtain ⟨p',q',h1,h2,⟨h3,h4,h5⟩,h6,h7⟩:=ents_get en dk i e (by simpa using he)
    rw [hp] at h1; cases h1
    have:q'.1=v:=RelV.inj (z ▸ h4) rv
    exact den_inj I g _ _ _ (this ▸ h6) dv
  st:=λ x t hx i e p he hp=>by
    obtain ⟨p',q',h1,h2,⟨h3,h4,h5⟩,h6,h7⟩:=ents_get en dk i e (by simpa using he)
    rw [hp] at h1; cases h1
    subst hx
    have ek:k=.str x:=by
      cases k with
      | str y=>cases den_strE dv; obtain ⟨t',z⟩:=rv; cases z; rfl
      | non=>cases den_nonE dv; exact nomatch (show Value.str x t=Value.none from rv)
      | bl b=>cases den_blE dv; exact nomatch (show Value.str x t=Value.bool b from rv)
      | int b=>cases den_intE dv; obtain ⟨t',z⟩:=rv; cases z
      | tup b=>obtain ⟨a,vs,rfl,_⟩:=den_tup.mp dv; exact nomatch (show Value.str x t=Value.ref a from rv)
      | lst b=>obtain ⟨a,vs,rfl,_⟩:=den_lst.mp dv; exact nomatch (show Value.str x t=Value.ref a from rv)
    subst ek
    generalize e.key=ke at h4 ⊢
    generalize p.1=d1 at h6 ⊢
    generalize q'.1=v1 at h4 h6
    cases d1 with
    | str y=>cases den_strE h6; obtain ⟨t',rfl⟩:=h4; unfold eqDD; rfl
    | non=>cases den_nonE h6; obtain rfl:ke=Value.none:=h4; unfold eqDD; rfl
    | bl b=>cases den_blE h6; obtain rfl:ke=Value.bool b:=h4; unfold eqDD; rfl
    | int b=>cases den_intE h6; obtain ⟨t',rfl⟩:=h4; unfold eqDD; rfl
    | tup b=>obtain ⟨a,vs,e1,_⟩:=den_tup.mp h6; rw [e1] at h4; obtain rfl:ke=Value.ref a:=h4; unfold eqDD; rfl
    | lst b=>obtain ⟨a,vs,e1,_⟩:=den_lst.mp h6; rw [e1] at h4; obtain rfl:ke=Value.ref a:=h4; unfold eqDD; rfl
section
variable (S:Seek X G s A d o xs ep kvs es k u)
include S
theorem Seek.at {i:Nat} (h:i < xs.size):∃ e p,xs[i]?=some e/\kvs[i]?=some p/\e.hash=hD X.w p.1/\hk 8 p.1=true:=by
  have he:xs.toList[i]?=some xs[i]:=by rw [Array.getElem?_toList,Array.getElem?_eq_getElem h]
  obtain ⟨p,q,h1,h2,h3,h4⟩:=ents_get S.en S.dk i _ he
  exact ⟨xs[i],p,Array.getElem?_eq_getElem h,h1,h3.1,S.ko.2 p (List.mem_of_getElem? h1)⟩
theorem Seek.uniq {i j:Nat} {p q:D×D} (hi:kvs[i]?=some p) (hj:kvs[j]?=some q) (ei:eqDD p.1 k=true) (ej:eqDD q.1 k=true):i=j:=by
  have a:=hk_eq 8 8 _ _ (S.ko.2 p (List.mem_of_getElem? hi)) S.hkk ei
  have b:=hk_eq 8 8 _ _ (S.ko.2 q (List.mem_of_getElem? hj)) S.hkk ej
  have hi':(kvs.map (·.1))[i]?=some k:=by rw [List.getElem?_map,hi]; simp [a]
  have hj':(kvs.map (·.1))[j]?=some k:=by rw [List.getElem?_map,hj]; simp [b]
  exact (List.getElem?_inj (List.getElem?_eq_some_iff.mp hi').1 S.ko.1).mp (hi'.trans hj'.symm)
theorem Seek.hit {i:Nat} {p:D×D} (hi:kvs[i]?=some p) (ei:eqDD p.1 k=true):kIx k kvs=some i:=by
  unfold kIx
  refine List.findIdx?_eq_some_iff_getElem.mpr ⟨(List.getElem?_eq_some_iff.mp hi).1,by rw [(List.getElem?_eq_some_iff.mp hi).2]; exact ei,λ j hj=>?_⟩
  have hjl:j < kvs.length:=Nat.lt_trans hj (List.getElem?_eq_some_iff.mp hi).1
  intro z
  exact absurd (S.uniq (List.getElem?_eq_getElem hjl) hi z ei) (by omega)
theorem Seek.places (i:Nat):i∈placesWithHash xs.size (λ i=>xs[i]?.map (·.hash)) (hD X.w k)↔∃ e,xs[i]?=some e/\e.hash=hD X.w k:=by
  unfold placesWithHash
  rw [List.mem_filter,List.mem_range]
  constructor
  · rintro ⟨h1,h2⟩
    refine ⟨xs[i],Array.getElem?_eq_getElem h1,?_⟩
    dsimp only at h2
    rw [Array.getElem?_eq_getElem h1] at h2
    simpa using h2
  · rintro ⟨e,h1,h2⟩
    refine ⟨(Array.getElem?_eq_some_iff.mp h1).1,?_⟩
    dsimp only
    rw [h1]
    simp [h2]
theorem Seek.miss (h:∀ i∈placesWithHash xs.size (λ i=>xs[i]?.map (·.hash)) (hD X.w k),∀ p,kvs[i]?=some p->eqDD p.1 k=false):kIx k kvs=none:=by
  unfold kIx
  refine List.findIdx?_eq_none_iff.mpr λ p hp=>?_
  obtain ⟨i,hi⟩:=List.mem_iff_getElem?.mp hp
  cases z:eqDD p.1 k with
  | false=>rfl
  | true =>
    have hl:i < xs.size:=by
      have q1:=(ents_len S.en).1
      have q2:=(List.getElem?_eq_some_iff.mp hi).1
      simp only [Array.length_toList] at q1
      omega
    obtain ⟨e,p',h1,h2,h3,_⟩:=S.at hl
    rw [hi] at h2; cases h2
    have a:=hk_eq 8 8 _ _ (S.ko.2 p (List.mem_of_getElem? hi)) S.hkk z
    rw [h i ((S.places i).mpr ⟨e,h1,by rw [h3,a]⟩) p hi] at z
    cases z
theorem Seek.tells {Q:Bool->Shared->Prop} (q:Q false s) :
    wpAny (model X.prog X.w) A (tableMayTell u ((placesWithHash xs.size (λ i=>xs[i]?.map (·.hash)) (hD X.w k)).filterMap λ i=>xs[i]?.map (·.key))) Q E s:=by
  unfold tableMayTell
  split
  · exact wpAny_pure q
  · refine wpAny_bind (S.qk _ _ ?_)
    refine wpAny_ite_split (λ z=>absurd z (by decide)) λ _=>wpAny_bind ?_
    refine wpAny_forIn_list _ (λ rest b s'=>b=(none,())/\s'=s/\∀ v∈rest,∃ (i:Nat) (e:DictEntry),xs[i]?=some e/\v=e.key) _ ?_ ?_ _ _ ⟨rfl,rfl,λ v hv=>?_⟩
    · rintro x rest b s' ⟨rfl,rfl,h⟩
      obtain ⟨i,e,h1,rfl⟩:=h x List.mem_cons_self
      refine wpAny_bind (S.qe i e h1 _ _ ?_)
      exact wpAny_ite_split (λ z=>absurd z (by decide)) λ _=>wpAny_pure ⟨rfl,rfl,λ v hv=>h v (List.mem_cons_of_mem _ hv)⟩
    · rintro b s' ⟨rfl,rfl,_⟩
      exact wpAny_pure q
    · obtain ⟨i,_,hi⟩:=List.mem_filterMap.mp hv
      cases z:xs[i]? with
      | none=>rw [z] at hi; cases hi
      | some e=>rw [z] at hi; exact ⟨i,e,z,by simpa using hi.symm⟩
theorem Seek.plain {Q:Option Nat->Shared->Prop} (q:Q (kIx k kvs) s):wpAny (model X.prog X.w) A (dictWalkPlain d u (hD X.w k) xs (placesWithHash xs.size (λ i=>xs[i]?.map (·.hash)) (hD X.w k))) Q E s:=by
  unfold dictWalkPlain
  refine wpAny_bind ?_
  refine wpAny_forIn_list _ (λ rest b s'=>b=(none,())/\s'=s/\∃ done,placesWithHash xs.size (λ i=>xs[i]?.map (·.hash)) (hD X.w k)=done++rest/\∀ i∈done,∀ p,kvs[i]?=some p->eqDD p.1 k=false) _ ?_ ?_ _ _
    ⟨rfl,rfl,[],rfl,λ i hi=>nomatch hi⟩
  · rintro x rest b s' ⟨rfl,rfl,done,hl,hno⟩
    obtain ⟨e,he,hh⟩:=(S.places x).mp (by rw [hl]; simp)
    obtain ⟨e',p,h1,h2,h3,h4⟩:=S.at (Array.getElem?_eq_some_iff.mp he).1
    rw [he] at h1; cases h1
    rw [he]
    dsimp only
    rw [if_pos (by rw [hh]; simp)]
    refine wpAny_bind (wpAny_dictEpoch S.ho S.hd (wpAny_bind (S.eq x e p he h2 _ _ (wpAny_bind (wpAny_dictEpoch S.ho S.hd ?_)))))
    refine wpAny_ite_split (λ z=>absurd z (by simp)) λ _=>?_
    cases z:eqDD p.1 k with
    | true =>
      refine wpAny_ite_split (λ _=>wpAny_bind (wpAny_rule (wpAny_pure (wpAny_pure ?_)))) λ z=>absurd rfl z
      rw [S.hit h2 z] at q
      exact q
    | false =>
      refine wpAny_ite_split (λ z=>nomatch z) λ _=>wpAny_bind (wpAny_rule (wpAny_pure ⟨rfl,rfl,done++[x],by simp [hl],λ i hi p' hp'=>?_⟩))
      rcases List.mem_append.mp hi with hi | hi
      · exact hno i hi p' hp'
      · rw [List.mem_singleton.mp hi,h2] at hp'; cases hp'; exact z
  · rintro b s' ⟨rfl,rfl,done,hl,hno⟩
    refine wpAny_pure ?_
    rw [S.miss (by rw [hl]; simpa using hno)] at q
    exact q
end
end
end Wy


namespace Wy
open PySem PySem.Spec PyProof.Rows L2
section
variable {X:Cx} {pins:List (Addr×Obj)} {σ:L2.St} {H G:Hp} {s:Shared} {A:Around} {E:Value->Shared->Prop}
variable {d:Addr} {o:Obj} {xs:Array DictEntry} {ep:Nat} {kvs:List (D×D)} {es:List (V×V)} {k:D} {u:Value}
theorem Seek.find (S:Seek X G s A d o xs ep kvs es k u) {Q:Option Nat->Shared->Prop} (q:Q (kIx k kvs) s):wpAny (model X.prog X.w) A (dictFind d u (hD X.w k)) Q E s:=by
  have hnd:(placesWithHash xs.size (λ i=>xs[i]?.map (·.hash)) (hD X.w k)).Nodup:=by unfold placesWithHash; exact List.Nodup.sublist List.filter_sublist List.nodup_range
  unfold dictFind
  refine wpAny_holding (wpAny_bind (wpAny_dictEntries S.ho S.hd ?_))
  have val:∀ {u:Value},Seek X G s A d o xs ep kvs es k u->carriedByValue u=true->True:=λ _ _=>trivial
  cases u with
  | ref a =>
    dsimp only
    rw [if_neg (show ¬ ((Value.ref a::(placesWithHash xs.size (λ i=>xs[i]?.map (·.hash)) (hD X.w k)).filterMap (λ i=>xs[i]?.map (·.key))).all carriedByValue)=true by simp [carriedByValue])]
    refine wpAny_ite_split (λ z=>?_) λ _=>?_
    · exfalso
      rw [<- Array.any_toList,List.any_eq_true] at z
      obtain ⟨e,he,hc⟩:=z
      obtain ⟨i,hi⟩:=List.mem_iff_getElem?.mp he
      rw [Array.getElem?_toList] at hi
      obtain ⟨e',p,h1,h2,h3,h4⟩:=S.at (Array.getElem?_eq_some_iff.mp hi).1
      rw [hi] at h1; cases h1
      simp only [Bool.and_eq_true,beq_iff_eq,bne_iff_ne,ne_eq] at hc
      exact hc.2 (by rw [h3,S.same i e p hi h2 hc.1])
    · refine wpAny_ite_split (λ _=>wpAny_bind (wpAny_pure ?_)) λ _=>wpAny_bind (S.tells ?_)
      all_goals
        refine wpAny_ite_split (λ z=>absurd z (by simp)) λ _=>wpAny_bind ?_
        refine wpAny_forIn_list _ (λ rest b s'=>b.1=none/\s'=s/\∃ done,placesWithHash xs.size (λ i=>xs[i]?.map (·.hash)) (hD X.w k)=done++rest/\((b.2=none/\∀ i∈done,∀ p,kvs[i]?=some p->eqDD p.1 k=false)∨∃ j p,b.2=some j/\j∈done/\kvs[j]?=some p/\eqDD p.1 k=true)) _ ?_ ?_ _ _ ⟨rfl,rfl,[],rfl,.inl ⟨rfl,λ i hi=>nomatch hi⟩⟩
        · rintro x rest ⟨b1,b2⟩ s' ⟨hb,rfl,done,hl,hh⟩
          cases hb
          obtain ⟨e,he,hhx⟩:=(S.places x).mp (by rw [hl]; simp)
          obtain ⟨e',p,h1,h2,h3,h4⟩:=S.at (Array.getElem?_eq_some_iff.mp he).1
          rw [he] at h1; cases h1
          rw [he]
          dsimp only
          rw [if_pos (by rw [hhx]; simp)]
          refine wpAny_bind (wpAny_dictEpoch S.ho S.hd (wpAny_bind (S.eq x e p he h2 _ _ (wpAny_bind (wpAny_dictEpoch S.ho S.hd ?_)))))
          refine wpAny_ite_split (λ z=>absurd z (by simp)) λ _=>?_
          cases z:eqDD p.1 k with
          | true =>
            refine wpAny_ite_split (λ _=>?_) λ z=>absurd rfl z
            rcases hh with ⟨hb2,hno⟩ | ⟨j,pj,hb2,hj,hkj,ej⟩
            · cases hb2
              refine wpAny_ite_split (λ z=>absurd z (by simp)) λ _=>wpAny_bind (wpAny_rule ?_)
              refine wpAny_ite_split (λ _=>wpAny_pure (wpAny_pure ?_)) λ _=>wpAny_pure ⟨rfl,rfl,done++[x],by simp [hl],.inr ⟨x,p,rfl,by simp,h2,z⟩⟩
              rw [S.hit h2 z] at q
              exact q
            · exfalso
              have ejx:=S.uniq hkj h2 ej z
              subst ejx
              rw [hl,List.nodup_append] at hnd
              exact hnd.2.2 j hj j List.mem_cons_self rfl
          | false =>
            refine wpAny_ite_split (λ z=>nomatch z) λ _=>wpAny_bind (wpAny_rule ?_)
            refine wpAny_ite_split (λ z=>absurd z (by simp)) λ _=>wpAny_pure ⟨rfl,rfl,done++[x],by simp [hl],?_⟩
            rcases hh with ⟨hb2,hno⟩ | ⟨j,pj,hb2,hj,hkj,ej⟩
            · refine .inl ⟨hb2,λ i hi p' hp'=>?_⟩
              rcases List.mem_append.mp hi with hi | hi
              · exact hno i hi p' hp'
              · rw [List.mem_singleton.mp hi,h2] at hp'; cases hp'; exact z
            · exact .inr ⟨j,pj,hb2,List.mem_append_left _ hj,hkj,ej⟩
        · rintro ⟨b1,b2⟩ s' ⟨hb,rfl,done,hl,hh⟩
          cases hb
          rcases hh with ⟨hb2,hno⟩ | ⟨j,pj,hb2,hj,hkj,ej⟩
          · cases hb2
            refine wpAny_pure ?_
            rw [S.miss (by rw [hl]; simpa using hno)] at q
            exact q
          · cases hb2
            refine wpAny_pure ?_
            rw [S.hit hkj ej] at q
            exact q
  | str x t =>
    dsimp only
    refine wpAny_ite_split (λ z=>?_) λ _=>?_
    · unfold foundByValue
      have at_:∀ (i:Nat) (h:i < xs.size),∃ p,kvs[i]?=some p/\xs[i].key.isStr x=eqDD p.1 k:=λ i h=>by
        obtain ⟨e,p,h1,h2,h3,h4⟩:=S.at h
        rw [Array.getElem?_eq_getElem h] at h1; cases h1
        exact ⟨p,h2,S.st x t rfl i _ p (Array.getElem?_eq_getElem h) h2⟩
      have hlen:kvs.length=xs.size:=by have:=(ents_len S.en).1; simpa using this
      cases hx:kIx k kvs with
      | none =>
        have hf:xs.findIdx? (λ e=>e.key.isStr x)=none:=Array.findIdx?_eq_none_iff.mpr λ e he=>by
          obtain ⟨i,hi,rfl⟩:=Array.mem_iff_getElem.mp he
          obtain ⟨p,hp,e2⟩:=at_ i hi
          rw [e2]
          unfold kIx at hx
          exact List.findIdx?_eq_none_iff.mp hx p (List.mem_of_getElem? hp)
        rw [hf]
        rw [hx] at q
        exact wpAny_pure q
      | some j =>
        obtain ⟨hj,ej,hno⟩:=List.findIdx?_eq_some_iff_getElem.mp (show kvs.findIdx? (λ p=>eqDD p.1 k)=some j from hx)
        have hjx:j < xs.size:=by omega
        have hf:xs.findIdx? (λ e=>e.key.isStr x)=some j:=Array.findIdx?_eq_some_iff_getElem.mpr ⟨hjx,by
            obtain ⟨p,hp,e2⟩:=at_ j hjx
            rw [List.getElem?_eq_getElem hj] at hp; cases hp
            rw [e2]; exact ej,λ i hi=>by
            obtain ⟨p,hp,e2⟩:=at_ i (by omega)
            have:=hno i hi
            rw [List.getElem?_eq_getElem (by omega)] at hp; cases hp
            rw [e2]; exact this⟩
        rw [hf]
        rw [hx] at q
        dsimp only
        rw [Array.getElem?_eq_getElem hjx]
        dsimp only
        refine wpAny_bind (wpAny_dictEpoch S.ho S.hd (wpAny_bind (S.eq j _ _ (Array.getElem?_eq_getElem hjx) (List.getElem?_eq_getElem hj) _ _ (wpAny_bind (wpAny_dictEpoch S.ho S.hd ?_)))))
        refine wpAny_ite_split (λ z=>absurd z (by simp)) λ _=>?_
        rw [ej]
        exact wpAny_ite_split (λ _=>wpAny_bind (wpAny_rule (wpAny_pure q))) λ z=>absurd rfl z
    · refine wpAny_ite_split (λ _=>S.plain q) λ _=>?_
      refine wpAny_ite_split (λ _=>wpAny_bind (wpAny_pure ?_)) λ _=>wpAny_bind (S.tells ?_)
      all_goals
        refine wpAny_ite_split (λ z=>absurd z (by simp)) λ _=>wpAny_bind ?_
        refine wpAny_forIn_list _ (λ rest b s'=>b.1=none/\s'=s/\∃ done,placesWithHash xs.size (λ i=>xs[i]?.map (·.hash)) (hD X.w k)=done++rest/\((b.2=none/\∀ i∈done,∀ p,kvs[i]?=some p->eqDD p.1 k=false)∨∃ j p,b.2=some j/\j∈done/\kvs[j]?=some p/\eqDD p.1 k=true)) _ ?_ ?_ _ _ ⟨rfl,rfl,[],rfl,.inl ⟨rfl,λ i hi=>nomatch hi⟩⟩
        · rintro x rest ⟨b1,b2⟩ s' ⟨hb,rfl,done,hl,hh⟩
          cases hb
          obtain ⟨e,he,hhx⟩:=(S.places x).mp (by rw [hl]; simp)
          obtain ⟨e',p,h1,h2,h3,h4⟩:=S.at (Array.getElem?_eq_some_iff.mp he).1
          rw [he] at h1; cases h1
          rw [he]
          dsimp only
          rw [if_pos (by rw [hhx]; simp)]
          refine wpAny_bind (wpAny_dictEpoch S.ho S.hd (wpAny_bind (S.eq x e p he h2 _ _ (wpAny_bind (wpAny_dictEpoch S.ho S.hd ?_)))))
          refine wpAny_ite_split (λ z=>absurd z (by simp)) λ _=>?_
          cases z:eqDD p.1 k with
          | true =>
            refine wpAny_ite_split (λ _=>?_) λ z=>absurd rfl z
            rcases hh with ⟨hb2,hno⟩ | ⟨j,pj,hb2,hj,hkj,ej⟩
            · cases hb2
              refine wpAny_ite_split (λ z=>absurd z (by simp)) λ _=>wpAny_bind (wpAny_rule ?_)
              refine wpAny_ite_split (λ _=>wpAny_pure (wpAny_pure ?_)) λ _=>wpAny_pure ⟨rfl,rfl,done++[x],by simp [hl],.inr ⟨x,p,rfl,by simp,h2,z⟩⟩
              rw [S.hit h2 z] at q
              exact q
            · exfalso
              have ejx:=S.uniq hkj h2 ej z
              subst ejx
              rw [hl,List.nodup_append] at hnd
              exact hnd.2.2 j hj j List.mem_cons_self rfl
          | false =>
            refine wpAny_ite_split (λ z=>nomatch z) λ _=>wpAny_bind (wpAny_rule ?_)
            refine wpAny_ite_split (λ z=>absurd z (by simp)) λ _=>wpAny_pure ⟨rfl,rfl,done++[x],by simp [hl],?_⟩
            rcases hh with ⟨hb2,hno⟩ | ⟨j,pj,hb2,hj,hkj,ej⟩
            · refine .inl ⟨hb2,λ i hi p' hp'=>?_⟩
              rcases List.mem_append.mp hi with hi | hi
              · exact hno i hi p' hp'
              · rw [List.mem_singleton.mp hi,h2] at hp'; cases hp'; exact z
            · exact .inr ⟨j,pj,hb2,List.mem_append_left _ hj,hkj,ej⟩
        · rintro ⟨b1,b2⟩ s' ⟨hb,rfl,done,hl,hh⟩
          cases hb
          rcases hh with ⟨hb2,hno⟩ | ⟨j,pj,hb2,hj,hkj,ej⟩
          · cases hb2
            refine wpAny_pure ?_
            rw [S.miss (by rw [hl]; simpa using hno)] at q
            exact q
          · cases hb2
            refine wpAny_pure ?_
            rw [S.hit hkj ej] at q
            exact q
  | _ =>
    dsimp only
    refine wpAny_ite_split (λ _=>S.plain q) λ _=>?_
    refine wpAny_ite_split (λ _=>wpAny_bind (wpAny_pure ?_)) λ _=>wpAny_bind (S.tells ?_)
    all_goals
      refine wpAny_ite_split (λ z=>absurd z (by simp)) λ _=>wpAny_bind ?_
      refine wpAny_forIn_list _ (λ rest b s'=>b.1=none/\s'=s/\∃ done,placesWithHash xs.size (λ i=>xs[i]?.map (·.hash)) (hD X.w k)=done++rest/\((b.2=none/\∀ i∈done,∀ p,kvs[i]?=some p->eqDD p.1 k=false)∨∃ j p,b.2=some j/\j∈done/\kvs[j]?=some p/\eqDD p.1 k=true)) _ ?_ ?_ _ _ ⟨rfl,rfl,[],rfl,.inl ⟨rfl,λ i hi=>nomatch hi⟩⟩
      · rintro x rest ⟨b1,b2⟩ s' ⟨hb,rfl,done,hl,hh⟩
        cases hb
        obtain ⟨e,he,hhx⟩:=(S.places x).mp (by rw [hl]; simp)
        obtain ⟨e',p,h1,h2,h3,h4⟩:=S.at (Array.getElem?_eq_some_iff.mp he).1
        rw [he] at h1; cases h1
        rw [he]
        dsimp only
        rw [if_pos (by rw [hhx]; simp)]
        refine wpAny_bind (wpAny_dictEpoch S.ho S.hd (wpAny_bind (S.eq x e p he h2 _ _ (wpAny_bind (wpAny_dictEpoch S.ho S.hd ?_)))))
        refine wpAny_ite_split (λ z=>absurd z (by simp)) λ _=>?_
        cases z:eqDD p.1 k with
        | true =>
          refine wpAny_ite_split (λ _=>?_) λ z=>absurd rfl z
          rcases hh with ⟨hb2,hno⟩ | ⟨j,pj,hb2,hj,hkj,ej⟩
          · cases hb2
            refine wpAny_ite_split (λ z=>absurd z (by simp)) λ _=>wpAny_bind (wpAny_rule ?_)
            refine wpAny_ite_split (λ _=>wpAny_pure (wpAny_pure ?_)) λ _=>wpAny_pure ⟨rfl,rfl,done++[x],by simp [hl],.inr ⟨x,p,rfl,by simp,h2,z⟩⟩
            rw [S.hit h2 z] at q
            exact q
          · exfalso
            have ejx:=S.uniq hkj h2 ej z
            subst ejx
            rw [hl,List.nodup_append] at hnd
            exact hnd.2.2 j hj j List.mem_cons_self rfl
        | false =>
          refine wpAny_ite_split (λ z=>nomatch z) λ _=>wpAny_bind (wpAny_rule ?_)
          refine wpAny_ite_split (λ z=>absurd z (by simp)) λ _=>wpAny_pure ⟨rfl,rfl,done++[x],by simp [hl],?_⟩
          rcases hh with ⟨hb2,hno⟩ | ⟨j,pj,hb2,hj,hkj,ej⟩
          · refine .inl ⟨hb2,λ i hi p' hp'=>?_⟩
            rcases List.mem_append.mp hi with hi | hi
            · exact hno i hi p' hp'
            · rw [List.mem_singleton.mp hi,h2] at hp'; cases hp'; exact z
          · exact .inr ⟨j,pj,hb2,List.mem_append_left _ hj,hkj,ej⟩
      · rintro ⟨b1,b2⟩ s' ⟨hb,rfl,done,hl,hh⟩
        cases hb
        rcases hh with ⟨hb2,hno⟩ | ⟨j,pj,hb2,hj,hkj,ej⟩
        · cases hb2
          refine wpAny_pure ?_
          rw [S.miss (by rw [hl]; simpa using hno)] at q
          exact q
        · cases hb2
          refine wpAny_pure ?_
          rw [S.hit hkj ej] at q
          exact q
end
end Wy


namespace Wy
open PySem PySem.Spec PyProof.Rows L2
section
variable {X:Cx} {pins:List (Addr×Obj)} {σ:L2.St} {H G:Hp} {s:Shared} {A:Around} {E:Value->Shared->Prop}
variable {d:Addr} {kvs:List (D×D)} {es:List (V×V)} {k:D} {v:V} {u:Value}
structure Dic (X:Cx) (H G:Hp) (d:Addr) (kvs:List (D×D)) (es:List (V×V)):Prop where
  g:Same G H
  at_:H d=some (.ext (DctAt X.w d kvs es))
  dk:DenK X.K G kvs es
structure Ky (X:Cx) (G:Hp) (k:D) (v:V) (u:Value):Prop where
  dv:Den X.K G k v
  rv:RelV v u
  hk:hk 8 k=true
theorem dic_open (I:Inv X pins σ H s) (D:Dic X H G d kvs es):(d == sysModules)=false/\KOk kvs/\kvs.length<=1000000/\∃ o xs ep,s.heap.get? d=some o/\o.ExactDict/\o.data=.dict xs ep/\EntsOk X.w kvs es xs.toList:=(I.hok d _ D.at_).1
theorem dic_type (I:Inv X pins σ H s) (D:Dic X H G d kvs es):s.TypeIs (.ref d) "dict":=by
  obtain ⟨_,_,_,o,xs,ep,ho,ex,_⟩:=dic_open I D
  exact ⟨o,ho,ex.1⟩
theorem get_D (I:Inv X pins σ H s) (g:Same G H) (z0:DctAt X.w d kvs es s.heap) (dk:DenK X.K G kvs es) (Kq:Ky X G k v u) (hu:A.units + 20 < cLine) {Q:Option Value->Shared->Prop}
    (h0:kIx k kvs=none->∀ tk,Q none { s with toks:=tk }) (h1:∀ (j:Nat) (q:V×V) (x:Value),kIx k kvs=some j->es[j]?=some q->RelV q.2 x->(∃ o xs ep,s.heap.get? d=some o/\o.data=.dict xs ep/\xs[j]?.map (·.val)=some x)->∀ tk,Q (some x) { s with toks:=tk }):wpAny (model X.prog X.w) A (dictGet d u) Q E s:=by
  obtain ⟨hS,ko,hz,o,xs,ep,ho,ex,hd,en⟩:=z0
  unfold dictGet
  refine wpAny_holding (wpAny_bind (hash_D 8 k v u s A E _ I g Kq.hk (by omega) Kq.dv Kq.rv λ tk=>?_))
  have S:Seek X G { s with toks:=tk } A d o xs ep kvs es k u:=Seek.mk' (I.tok tk) g ho hd en dk ko Kq.hk hu Kq.dv Kq.rv
  refine wpAny_bind (S.find ?_)
  cases z:kIx k kvs with
  | none=>exact wpAny_pure (h0 z tk)
  | some j =>
    have hj:j < kvs.length:=by unfold kIx at z; exact (List.findIdx?_eq_some_iff_getElem.mp z).1
    have hl:=ents_len en
    have hx:j < xs.size:=by simp only [Array.length_toList] at hl; omega
    obtain ⟨p,q,e1,e2,⟨_,_,e3⟩,_⟩:=ents_get en dk j xs[j] (by rw [Array.getElem?_toList,Array.getElem?_eq_getElem hx])
    refine wpAny_bind (wpAny_dictEntries (s:={ s with toks:=tk }) ho hd ?_)
    rw [Array.getElem?_eq_getElem hx]
    exact wpAny_pure (h1 j q _ z e2 e3 ⟨o,xs,ep,ho,hd,by rw [Array.getElem?_eq_getElem hx]; rfl⟩ tk)
theorem contains_D (I:Inv X pins σ H s) (D:Dic X H G d kvs es) (Kq:Ky X G k v u) (hu:A.units + 30 < cLine) {Q:Bool->Shared->Prop} (q:∀ tk,Q (kIx k kvs).isSome { s with toks:=tk }) :
    wpAny (model X.prog X.w) A (contains (.ref d) u) Q E s:=by
  have ty:=dic_type I D
  have hS:=(dic_open I D).1
  unfold contains
  refine wpAny_holding (wpAny_bind (wpAny_specialOf ty slot_dict_contains.lookup ?_))
  refine wpAny_ite_split (λ z=>absurd z (by rw [beq_builtin_none]; exact Bool.false_ne_true)) λ _=>?_
  refine wpAny_bind (wpAny_callSpecialUnlessNone?_slot (name:=Str.ofString "__contains__") ty slot_dict_contains (wpAny_call_entry slot_dict_contains ty entry_dict_contains ?_ (args_dict_contains _ _)))
  show wpAny _ A.in1 (dictGet d u>>=λ _=>_) _ _ s
  refine wpAny_bind (get_D I D.g (dic_open I D) D.dk Kq (by show A.units + 1 + 20 < cLine; omega) (λ z tk=>?_) λ j p x z _ _ _ tk=>?_)
  · rw [z] at q
    show wpAny _ _ (Builtin.Dict.pendingKey? d u>>=λ _=>_) _ _ _
    exact wpAny_bind (wpAny_pendingKey_other hS (wpAny_pure ⟨_,rfl,wpAny_truthy_bool (q tk)⟩))
  · rw [z] at q
    exact wpAny_pure ⟨_,rfl,wpAny_truthy_bool (q tk)⟩
def rInD (X:Cx):R2:=λ x y H Q=>∃ G d kvs es k,y=.ref d/\Dic X H G d kvs es/\Den X.K G k x/\hk 8 k=true/\Q (.bl (false != (kIx k kvs).isSome)) H
theorem op_inDic (hu:X.A.units + 150 < cLine):OpR X (compareOp .In) (rInD X):=by
  intro pins s σ H x y v u Q I rx ry h
  obtain ⟨G,d,kvs,es,k,rfl,D,dk,hk,q⟩:=h
  obtain rfl:u=Value.ref d:=ry
  show wpAny _ _ (do return Value.bool (<- contains (.ref d) v)) _ _ s
  exact wpAny_bind (contains_D I D ⟨dk,rx,hk⟩ (by omega) λ tk=>wpAny_pure ⟨.bl _,H,I.tok tk,by show Value.bool _=Value.bool _; congr 1; cases (kIx k kvs).isSome <;> rfl,q⟩)
def valAt (h:Heap) (d:Addr) (j:Nat) (x:Value):Prop:=∃ o xs ep,h.get? d=some o/\o.data=.dict xs ep/\xs[j]?.map (·.val)=some x
theorem valAt_inj {h:Heap} {d:Addr} {j:Nat} {x y:Value} (a:valAt h d j x) (b:valAt h d j y):x=y:=by
  obtain ⟨o,xs,ep,h1,h2,h3⟩:=a
  obtain ⟨o',xs',ep',g1,g2,g3⟩:=b
  rw [h1] at g1; cases g1
  rw [h2] at g2; cases g2
  rw [h3] at g3; cases g3
  rfl
theorem getItem_D (I:Inv X pins σ H s) (D:Dic X H G d kvs es) (Kq:Ky X G k v u) (hu:A.units + 30 < cLine) {Q:Value->Shared->Prop} {j:Nat} {q:V×V} (z:kIx k kvs=some j) (e:es[j]?=some q)
    (h:∀ x,RelV q.2 x->valAt s.heap d j x->∀ tk,Q x { s with toks:=tk }):wpAny (model X.prog X.w) A (getItem (.ref d) u) Q E s:=by
  have ty:=dic_type I D
  unfold getItem
  refine wpAny_holding (wpAny_bind (wpAny_sequenceKey ty (by decide) ?_))
  refine wpAny_bind (wpAny_callSpecial?_slot (name:=Str.ofString "__getitem__") ty slot_dict_getitem (wpAny_call_entry slot_dict_getitem ty entry_dict_getitem ?_ (args_dict_getitem _ _)))
  show wpAny _ A.in1 (dictGet d u>>=λ _=>_) _ _ s
  refine wpAny_bind (get_D I D.g (dic_open I D) D.dk Kq (by show A.units + 1 + 20 < cLine; omega) (λ z'=>by rw [z] at z'; cases z') λ j' p x z' e' r va tk=>?_)
  rw [z] at z'; cases z'
  rw [e] at e'; cases e'
  exact wpAny_pure ⟨x,rfl,wpAny_pure (h x r va tk)⟩
def rIxD (X:Cx):R2:=λ x y H Q=>∃ G d kvs es k j q,x=.ref d/\Dic X H G d kvs es/\Den X.K G k y/\hk 8 k=true/\kIx k kvs=some j/\es[j]?=some q/\Q q.2 H
theorem ix_dic (hu:X.A.units + 150 < cLine):IxR X (rIxD X):=by
  intro value slice pins s σ H x y v u Q I rx ry h hs
  obtain ⟨G,d,kvs,es,k,j,q,rfl,D,dk,hk,z,e,h⟩:=h
  obtain rfl:v=Value.ref d:=rx
  have ty:=dic_type I D
  obtain ⟨hS,ko,hz,o,xs,ep,ho,ex,hd,en⟩:=dic_open I D
  have hj:j < kvs.length:=by unfold kIx at z; exact (List.findIdx?_eq_some_iff_getElem.mp z).1
  have hl:=ents_len en
  have hx:j < xs.size:=by simp only [Array.length_toList] at hl; omega
  have va:valAt s.heap d j xs[j].val:=⟨o,xs,ep,ho,hd,by rw [Array.getElem?_eq_getElem hx]; rfl⟩
  exact subscriptTail_builtinR (x:=xs[j].val) ty slot_dict_getitem.lookup
    (getItem_D (Q:=λ r s'=>r=xs[j].val/\EP X pins σ Q r s') I D ⟨dk,ry,hk⟩ (by omega) z e λ w' rw' va' tk=>⟨valAt_inj va' va,q.2,H,I.tok tk,rw',h⟩) hs
def putK (k dv:D) (kvs:List (D×D)):List (D×D):=match kIx k kvs with
  | some j=>kvs.modify j λ p=>(p.1,dv)
  | none=>kvs++[(k,dv)]
def putE (j:Option Nat) (kv vv:V) (es:List (V×V)):List (V×V):=match j with
  | some j=>es.modify j λ q=>(q.1,vv)
  | none=>es++[(kv,vv)]
theorem kIx_none {k:D} {kvs:List (D×D)} (h:kIx k kvs=none):k∉kvs.map (·.1):=by
  intro hm
  obtain ⟨p,hp,rfl⟩:=List.mem_map.mp hm
  unfold kIx at h
  have:=List.findIdx?_eq_none_iff.mp h p hp
  rw [eqDD_self] at this
  cases this
theorem kok_put {k dv:D} {kvs:List (D×D)} (h:KOk kvs) (hk:hk 8 k=true):KOk (putK k dv kvs):=by
  unfold putK
  split
  · rename_i j _
    have e:(kvs.modify j λ p=>(p.1,dv)).map (·.1)=kvs.map (·.1):=by
      apply List.ext_getElem?
      intro i
      simp only [List.getElem?_map,List.getElem?_modify]
      cases kvs[i]? with
      | none=>rfl
      | some p=>by_cases z:j=i <;> simp [z]
    refine ⟨by rw [e]; exact h.1,λ p hp=>?_⟩
    have:p.1∈(kvs.modify j λ p=>(p.1,dv)).map (·.1):=List.mem_map.mpr ⟨p,hp,rfl⟩
    rw [e] at this
    obtain ⟨q,hq,e2⟩:=List.mem_map.mp this
    rw [<- e2]
    exact h.2 q hq
  · rename_i z
    refine ⟨?_,λ p hp=>?_⟩
    · rw [List.map_append,List.nodup_append]
      exact ⟨h.1,by simp,λ a ha b hb=>by
        have hb':b=k:=by simpa using hb
        rw [hb']
        exact λ e=>kIx_none z (e ▸ ha)⟩
    · rcases List.mem_append.mp hp with hp | hp
      · exact h.2 p hp
      · rw [List.mem_singleton.mp hp]; exact hk
theorem denK_get {K:PySem.W.Frag} {G:Hp}:∀ {kvs:List (D×D)} {es:List (V×V)} {j:Nat} {p:D×D},DenK K G kvs es->kvs[j]?=some p->∃ q,es[j]?=some q/\Den K G p.2 q.2
  | p::ps,q::qs,0,p',h,e=>by cases e; exact ⟨q,rfl,h.1.2⟩
  | p::ps,q::qs,j + 1,p',h,e=>by
    obtain ⟨q',h1,h2⟩:=denK_get (j:=j) h.2 (by simpa using e)
    exact ⟨q',by simpa using h1,h2⟩
  | [],[],_,_,_,e=>by simp at e
  | [],_::_,_,_,h,_=>h.elim
  | _::_,[],_,_,h,_=>h.elim
theorem denK_append {K:PySem.W.Frag} {G:Hp} {k d:D} {a b:V} (h1:Den K G k a) (h2:Den K G d b):∀ {kvs:List (D×D)} {es:List (V×V)},DenK K G kvs es->DenK K G (kvs++[(k,d)]) (es++[(a,b)])
  | [],[],_=>⟨⟨h1,h2⟩,trivial⟩
  | _::_,_::_,h=>⟨h.1,denK_append h1 h2 h.2⟩
  | [],_::_,h=>h.elim
  | _::_,[],h=>h.elim
theorem denK_modify {K:PySem.W.Frag} {G:Hp} {d:D} {b:V} (h2:Den K G d b):∀ {kvs:List (D×D)} {es:List (V×V)} (j:Nat),DenK K G kvs es->DenK K G (kvs.modify j λ p=>(p.1,d)) (es.modify j λ q=>(q.1,b))
  | [],[],_,_=>by simp [DenK]
  | _::_,_::_,0,h=>by simp only [List.modify_zero_cons]; exact ⟨⟨h.1.1,h2⟩,h.2⟩
  | _::_,_::_,j + 1,h=>by simp only [List.modify_succ_cons]; exact ⟨h.1,denK_modify h2 j h.2⟩
  | [],_::_,_,h=>h.elim
  | _::_,[],_,h=>h.elim
theorem ents_append {w:World} {k d:D} {a b:V} {e:DictEntry} (h1:e.hash=hD w k/\RelV a e.key/\RelV b e.val):∀ {kvs:List (D×D)} {es:List (V×V)} {xs:List DictEntry},EntsOk w kvs es xs->EntsOk w (kvs++[(k,d)]) (es++[(a,b)]) (xs++[e])
  | [],[],[],_=>⟨h1,trivial⟩
  | _::_,_::_,_::_,h=>⟨h.1,ents_append h1 h.2⟩
  | [],[],_::_,h=>h.elim
  | [],_::_,[],h=>h.elim
  | [],_::_,_::_,h=>h.elim
  | _::_,[],_,h=>h.elim
  | _::_,_::_,[],h=>h.elim
theorem ents_modify {w:World} {d:D} {b:V} {x:Value} (r:RelV b x):∀ {kvs:List (D×D)} {es:List (V×V)} {xs:List DictEntry} (j:Nat),EntsOk w kvs es xs->EntsOk w (kvs.modify j λ p=>(p.1,d)) (es.modify j λ q=>(q.1,b)) (xs.modify j λ e=>{ e with val:=x })
  | [],[],[],_,_=>by simp [EntsOk]
  | _::_,_::_,_::_,0,h=>by simp only [List.modify_zero_cons]; exact ⟨⟨h.1.1,h.1.2.1,r⟩,h.2⟩
  | _::_,_::_,_::_,j + 1,h=>by simp only [List.modify_succ_cons]; exact ⟨h.1,ents_modify r j h.2⟩
  | [],[],_::_,_,h=>h.elim
  | [],_::_,[],_,h=>h.elim
  | [],_::_,_::_,_,h=>h.elim
  | _::_,[],_,_,h=>h.elim
  | _::_,_::_,[],_,h=>h.elim
theorem putK_len {k dv:D} {kvs:List (D×D)}:(putK k dv kvs).length<=kvs.length + 1:=by
  unfold putK
  split <;> simp
theorem set_D (I:Inv X pins σ H s) (g:Same G H) (z0:DctAt X.w d kvs es s.heap) (dk:DenK X.K G kvs es) (Kq:Ky X G k v u) (hu:A.units + 20 < cLine) (hz:kvs.length < 1000000) {dv:D} {vv:V} {x:Value} (rx:RelV vv x) {Q:Unit->Shared->Prop}
    (q:∀ h' tk,Heap.SameBut d s.heap h'->DctAt X.w d (putK k dv kvs) (putE (kIx k kvs) v vv es) h'->Q () { s with heap:=h',toks:=tk }):wpAny (model X.prog X.w) A (dictSet d u x) Q E s:=by
  obtain ⟨hS,ko,hz',o,xs,ep,ho,ex,hd,en⟩:=z0
  have hl:=ents_len en
  have hxs:xs.size<=sizeLine:=by rw [sizeLine_eq]; simp only [Array.length_toList] at hl; omega
  unfold dictSet
  refine wpAny_holding (wpAny_bind (hash_D 8 k v u s A E _ I g Kq.hk (by omega) Kq.dv Kq.rv λ tk=>?_))
  have S:Seek X G { s with toks:=tk } A d o xs ep kvs es k u:=Seek.mk' (I.tok tk) g ho hd en dk ko Kq.hk hu Kq.dv Kq.rv
  unfold dictSetHashed
  refine wpAny_holding (wpAny_bind (S.find ?_))
  have ko':KOk (putK k dv kvs):=kok_put ko Kq.hk
  have hl':(putK k dv kvs).length<=1000000:=Nat.le_trans putK_len (by omega)
  cases z:kIx k kvs with
  | none =>
    refine wpAny_bind (wpAny_rule (wpAny_updateDictKeys (s:={ s with toks:=tk }) ho hd (q _ tk (Heap.SameBut.update ..) ⟨hS,ko',hl',?_⟩) hxs))
    refine ⟨_,_,ep + 1,Heap.get?_update_self _ ho (Obj.isFreed_of_dict (Obj.data_mapDictKeys hd _)),ex.mapDictKeys _,Obj.data_mapDictKeys hd _,?_⟩
    unfold putK putE
    rw [z]
    simp only [Array.toList_push]
    exact ents_append ⟨rfl,Kq.rv,rx⟩ en
  | some j =>
    refine wpAny_bind (wpAny_rule (wpAny_bind (wpAny_updateDict (s:={ s with toks:=tk }) ho hd (wpAny_point (q _ tk (Heap.SameBut.update ..) ⟨hS,ko',hl',?_⟩)))))
    refine ⟨_,_,ep,Heap.get?_update_self _ ho (Obj.isFreed_of_dict (Obj.data_mapDict hd _)),ex.mapDict _,Obj.data_mapDict hd _,?_⟩
    unfold putK putE
    rw [z]
    dsimp only
    rw [Array.toList_modify]
    exact ents_modify rx j en
theorem dct_stable {w:World} {a:Addr} {kvs:List (D×D)} {es:List (V×V)} (h1 h2:Heap) (h:DctAt w a kvs es h1) (k:∀ o,h1.get? a=some o->h2.get? a=some o):DctAt w a kvs es h2:=by
  obtain ⟨hS,ko,hz,o,xs,ep,ho,r⟩:=h
  exact ⟨hS,ko,hz,o,xs,ep,k o ho,r⟩
theorem dct_ok {H:Hp} {h:Heap} {P:Program} {w:World} {a:Addr} {kvs:List (D×D)} {es:List (V×V)} (z:DctAt w a kvs es h):ObjOk P w H h a (.ext (DctAt w a kvs es)):=by
  refine ⟨z,?_,λ h1 h2 a b=>dct_stable h1 h2 a b⟩
  obtain ⟨_,_,_,o,_,_,ho,_⟩:=z
  exact ⟨o,ho⟩
theorem dic_written {h':Heap} {kvs':List (D×D)} {es':List (V×V)} (I:Inv X pins σ H s) (D:Dic X H G d kvs es) (hs:Heap.SameBut d s.heap h') (z:DctAt X.w d kvs' es' h') (tk:Nat):Inv X pins σ (upd H d (.ext (DctAt X.w d kvs' es'))) { s with heap:=h',toks:=tk }:=by
  refine I.write (e:=d) (by rw [D.at_]; trivial) (.inl rfl) (λ b o nb e=>by rw [hs.2 b nb]; exact e) ?_ (dct_ok z)
  obtain ⟨_,_,_,o,_,_,ho,_⟩:=z
  exact ⟨o,ho⟩
end
end Wy


namespace Wy
open PySem PySem.Spec PyProof.Rows L2
section
variable {K:PySem.W.Frag} {H₀ G₀ H G H' G':Hp} {Γ:Ga} {σ:L2.St} {w:World}
theorem TabIn.updX {a:Addr} {φ:Heap->Prop} {o:HO} (ha:H a=some (.ext φ)) (t:TabIn K H G):TabIn K (upd H a o) G:=λ x hx c P h=>by
  obtain ⟨g,ps,h1,h2⟩:=t x hx c P h
  exact ⟨g,ps,by rw [upd_ne (λ e=>by rw [e,ha] at h1; cases h1)]; exact h1,h2⟩
theorem Rep.mutD (R:Rep K H₀ G₀ Γ σ H G) {i:Nat} {kvs kvs':List (D×D)} {es':List (V×V)} {a:Addr} (hi:Γ[i]?=some (.dic w kvs)) (hs:σ[i]?=some (some (.ref a))) (hd:DenK K G kvs' es') :
    Rep K H₀ G₀ (Γ.set i (.dic w kvs')) σ (upd H a (.ext (DctAt w a kvs' es'))) G:=by
  obtain ⟨a',es,e1,e2,e3,e4,e5⟩:=R.all i _ hi
  rw [hs] at e1
  cases e1
  have gne:∀ b o,G b=some o->b≠a:=λ b o q z=>by rw [z,e4] at q; cases q
  have hne:∀ b o,H₀ b=some o->b≠a:=λ b o q z=>by rw [z,e3] at q; cases q
  have tbl:∀ b ps,H₀ b=some (.tbl ps)->∃ ps',upd H a (.ext (DctAt w a kvs' es')) b=some (.tbl ps')/\∀ Gx,Same G Gx->TblOk Gx ps->TblOk Gx ps':=λ b ps q=>by
    obtain ⟨ps',h1,h2⟩:=R.ex.tb b ps q
    exact ⟨ps',by rw [upd_ne (hne b _ q)]; exact h1,h2⟩
  refine ⟨⟨R.ex.gg,λ b o q=>?_,⟨λ b o q n=>?_,λ b ps q=>let ⟨ps',h,_⟩:=tbl b ps q; ⟨ps',h⟩⟩,R.ex.fr,tbl⟩,R.tab.updX e2,by rw [List.length_set]; exact R.ln,λ j y q=>?_,λ j k y z b q1 q2 m1 m2 s1 s2=>?_⟩
  · rw [upd_ne (gne b o q)]; exact R.ex.gh b o q
  · rw [upd_ne (hne b o q)]; exact R.ex.hh.nt b o q n
  · rcases set_at q with ⟨rfl,rfl,_⟩ | ⟨ne,q⟩
    · exact ⟨a,es',hs,upd_same,e3,e4,hd⟩
    · have old:=R.all j y q
      have nb:∀ b,y.mu=true->σ[j]?=some (some (V.ref b))->b≠a:=λ b hm hb z=>by
        subst z
        exact ne (R.di i j _ _ b hi q rfl hm hs hb)
      cases y with
      | un=>trivial
      | val d=>exact old
      | exc c=>exact old
      | fn c φ=>exact old
      | own zs =>
        obtain ⟨b,ws,f1,f2,f3,f4,f5⟩:=old
        exact ⟨b,ws,f1,by rw [upd_ne (nb b rfl f1)]; exact f2,f3,f4,f5⟩
      | par b zs =>
        obtain ⟨f1,ws,f2,f3,f4,f5⟩:=old
        exact ⟨f1,ws,by rw [upd_ne (nb b rfl f1)]; exact f2,f3,f4,f5⟩
      | dic w' zs =>
        obtain ⟨b,ws,f1,f2,f3,f4,f5⟩:=old
        exact ⟨b,ws,f1,by rw [upd_ne (nb b rfl f1)]; exact f2,f3,f4,f5⟩
      | vdi w' zs =>
        obtain ⟨b,ws,f1,f2,f3,f5⟩:=old
        exact ⟨b,ws,f1,by rw [upd_ne (λ z=>f3 (by rw [z]; exact e3))]; exact f2,f3,f5⟩
  · have o1:∀ (j:Nat) y,(Γ.set i (.dic w kvs'))[j]?=some y->y.mu=true->∃ y',Γ[j]?=some y'/\y'.mu=true:=λ j y q hm=>by
      rcases set_at q with ⟨rfl,rfl,_⟩ | ⟨ne,q⟩
      · exact ⟨_,hi,rfl⟩
      · exact ⟨_,q,hm⟩
    obtain ⟨z1,r1,r1'⟩:=o1 j y q1 m1
    obtain ⟨z2,r2,r2'⟩:=o1 k z q2 m2
    exact R.di j k _ _ b r1 r2 r1' r2' s1 s2
theorem Rep.setD (R:Rep K H₀ G₀ Γ σ H G) (i:Nat) {kvs:List (D×D)} {es:List (V×V)} {a:Addr} (h:H a=some (.ext (DctAt w a kvs es))) (h0:H₀ a=none) (hg:G a=none) (hd:DenK K G kvs es)
    (nw:∀ (j:Nat) y,j≠i->Γ[j]?=some y->y.mu=true->σ[j]?≠some (some (.ref a))):Rep K H₀ G₀ (Γ.set i (.dic w kvs)) (σ.set i (some (.ref a))) H G :=
  R.putS i (x:=.dic w kvs) ⟨a,es,rfl,h,h0,hg,hd⟩ λ _ j y b hj hy hm e=>by cases e; exact nw j y hj hy hm
end
def TellsD (X:Cx) (W:XP) (t:TE) (f:Ga->R (List (D×D))):Prop :=
  ∀ (H₀ G₀:Hp) (Γ:Ga) (σ:L2.St) (H G:Hp),Rep X.K H₀ G₀ Γ σ H G->∀ Q:VK,(f Γ).want (exAt W σ H G) (λ kvs=>∀ a es H' G',Ext H G H' G'->H' a=some (.ext (DctAt X.w a kvs es))->DenK X.K G' kvs es->Q (.ref a) H')->t σ H Q
def DiD (X:Cx) (W:XP) (e:Expr) (f:Ga->R (List (D×D))):Prop:=∃ t,PE X e t/\TellsD X W t f
def TellsE (X:Cx) (W:XP) (t:TE) (f:Ga->R (List (D×D))):Prop :=
  ∀ (H₀ G₀:Hp) (Γ:Ga) (σ:L2.St) (H G:Hp),Rep X.K H₀ G₀ Γ σ H G->∀ Q:VK,(f Γ).want (exAt W σ H G) (λ kvs=>∀ p es H' G',Ext H G H' G'->H p=none->H' p=some (.ext (DctAt X.w p kvs es))->G' p=none->DenK X.K G' kvs es->Q (.ref p) H')->t σ H Q
def OdD (X:Cx) (W:XP) (e:Expr) (f:Ga->R (List (D×D))):Prop:=∃ t,PE X e t/\TellsE X W t f
section
variable {X:Cx} {W:XP} {a b c e:Expr} {fa fb fc f:Ga->R D} {fd:Ga->R (List (D×D))} {pos pos' p2 apos cpos:Pos} {x:Str}
noncomputable def dV (w:World) (i:Nat):Ga->R (List (D×D)):=open Classical in λ Γ=>match Γ[i]? with
  | some (.dic w' kvs)=>if w'=w then .ok kvs else .no
  | some (.vdi w' kvs)=>if w'=w then .ok kvs else .no
  | _=>.no
theorem dV_dic {w:World} {i:Nat} {Γ:Ga} {kvs:List (D×D)} (h:Γ[i]?=some (.dic w kvs)):dV w i Γ=.ok kvs:=by
  unfold dV
  rw [h]
  exact if_pos rfl
theorem dV_vdi {w:World} {i:Nat} {Γ:Ga} {kvs:List (D×D)} (h:Γ[i]?=some (.vdi w kvs)):dV w i Γ=.ok kvs:=by
  unfold dV
  rw [h]
  exact if_pos rfl
theorem di_var (i:Nat) (hN:X.N[i]?=some x:=by rfl) (hv:Vis X.env.scope x:=by first | exact Or.inl rfl | exact Or.inr (Or.inl rfl) | exact Or.inr (Or.inr rfl)) (hd:(x == ("__debug__":Str))=false:=by decide)
    (hcd:(x == ("__classdict__":Str))=false:=by decide):DiD X W (.Name x pos) (dV X.w i) :=
  ⟨_,pe_var hN hv hd hcd,λ _ _ Γ _ H G R Q w=>by
    unfold dV at w
    split at w
    · rename_i w' kvs q
      split at w
      · rename_i e
        subst e
        obtain ⟨a,es,e1,e2,e3,e4,e5⟩:=R.all i _ q
        exact ⟨_,e1,w a es H G (.refl R.gh) e2 e5⟩
      · exact w.elim
    · rename_i w' kvs q
      split at w
      · rename_i e
        subst e
        obtain ⟨a,es,e1,e2,e3,e5⟩:=R.all i _ q
        exact ⟨_,e1,w a es H G (.refl R.gh) e2 e5⟩
      · exact w.elim
    · exact w.elim⟩
def inK (n:Bool) (k:D) (kvs:List (D×D)):R D:=if hk 8 k=true then .ok (.bl (n != (kIx k kvs).isSome)) else .no
def eInD (n:Bool) (fk:Ga->R D) (fd:Ga->R (List (D×D))):Ga->R D:=λ Γ=>(fk Γ).bind λ k=>(fd Γ).bind λ kvs=>inK n k kvs
def getK (k:D) (kvs:List (D×D)):R D:=if hk 8 k=true then .ofO ((kIx k kvs).bind λ j=>kvs[j]?.map (·.2)) else .no
def eIxD (fd:Ga->R (List (D×D))) (fk:Ga->R D):Ga->R D:=λ Γ=>(fd Γ).bind λ kvs=>(fk Γ).bind λ k=>getK k kvs
theorem dic_of {H G:Hp} {d:Addr} {kvs:List (D×D)} {es:List (V×V)} (g:Same G H) (h:H d=some (.ext (DctAt X.w d kvs es))) (k:DenK X.K G kvs es):Dic X H G d kvs es:=⟨g,h,k⟩
theorem inD_tells (n:Bool) {t1 t2:TE} {r:R2} (q1:Tells X.K W t1 fa) (q2:TellsD X W t2 fd)
    (hr:∀ x y H Q,(∃ G d kvs es k,y=.ref d/\Dic X H G d kvs es/\Den X.K G k x/\hk 8 k=true/\Q (.bl (n != (kIx k kvs).isSome)) H)->r x y H Q):Tells X.K W (tOp r t1 t2) (eInD n fa fd):=λ H₀ G₀ Γ σ H G R Q w=>by
  refine q1 _ _ _ _ _ _ R _ (wStep w (λ _ h=>h) λ k w v H1 G1 E1 d1=>?_)
  refine q2 _ _ _ _ _ _ (R.after E1) _ (wStep w (λ _ h=>h.up E1) λ kvs w d es H2 G2 E2 h2 k2=>?_)
  unfold inK at w
  split at w
  · rename_i hk'
    exact hr _ _ _ _ ⟨G2,d,kvs,es,k,rfl,dic_of E2.gh h2 k2,d1.up E2.gg,hk',w _ H2 G2 (E1.trans E2) den_bl⟩
  · exact w.elim
theorem tv_inD (hu:X.A.units + 150 < cLine) (ha:EvD X W a fa) (hb:DiD X W b fd) (hm:behindInMarks .In b=false:=by first | exact nomark _ | with_unfolding_all rfl):TvD X W (.Compare a [.In] [b] pos) (tB (eInD false fa fd)):=by
  obtain ⟨t1,p1,q1⟩:=ha
  obtain ⟨t2,p2,q2⟩:=hb
  exact tv_of_test (pt_cmpR (op_inDic hu) p1 p2 hm) (inD_tells false q1 q2 λ _ _ _ _ h=>h)
theorem ev_ixD (hu:X.A.units + 150 < cLine) (ha:DiD X W a fd) (hb:EvD X W b fb) (hs:PlainIx b:=by intro _ _; rfl):EvD X W (.Subscript a b pos) (eIxD fd fb):=by
  obtain ⟨t1,p1,q1⟩:=ha
  obtain ⟨t2,p2,q2⟩:=hb
  refine ⟨_,pe_ix (ix_dic hu) p1 p2 hs,λ H₀ G₀ Γ σ H G R Q w=>?_⟩
  refine q1 _ _ _ _ _ _ R _ (wStep w (λ _ h=>h) λ kvs w d es H1 G1 E1 h1 k1=>?_)
  refine q2 _ _ _ _ _ _ (R.after E1) _ (wStep w (λ _ h=>h.up E1) λ k w v H2 G2 E2 d2=>?_)
  unfold getK at w
  split at w
  · rename_i hk'
    obtain ⟨y,e',k'⟩:=wOfO w
    obtain ⟨j,e1,e2⟩:=Option.bind_eq_some_iff.mp e'
    obtain ⟨p,e3,rfl⟩:=Option.map_eq_some_iff.mp e2
    obtain ⟨q,e4,e5⟩:=denK_get (k1.up E2.gg) e3
    exact ⟨G2,d,kvs,es,k,j,q,rfl,dic_of E2.gh (E2.hh.nt _ _ h1 rfl) (k1.up E2.gg),d2,hk',e1,e4,k' _ H2 G2 (E1.trans E2) e5⟩
  · exact w.elim
def sSetD (w:World) (i:Nat) (fd:Ga->R (List (D×D))):Ga->RS:=λ Γ=>.of (fd Γ) Γ λ kvs=>.nx (Γ.set i (.dic w kvs))
theorem x_setD (i:Nat) (he:OdD X W e fd) (hN:X.N.Nodup) (hi:X.N[i]?=some x:=by rfl) (hx:Loc X.env.scope x:=by first | exact Or.inl rfl | exact Or.inr rfl) (hs:swapsWith e (some (.Name x pos')) pos.line X.env=pure false:=by rfl)
    (hf:X.fn x=true∨X.env.scope.names.lookup x=some .local:=by first | exact .inl rfl | exact .inr rfl | assumption):ExD X W (.Assign [.Name x pos'] e pos) (sSetD X.w i fd):=by
  obtain ⟨t,p,q⟩:=he
  refine ⟨_,ps_set hN hi hx p hs hf,λ H₀ G₀ Γ σ H G R D w=>?_⟩
  exact q _ _ _ _ _ _ R _ (wS R w λ d w p es H' G' E1 hp h' g' l=>w _ H' G' ((R.after E1).setD i h' (R.ex.hh.free hp) g' l λ j ys hj hy=>own_new R hp j ys hy))
theorem denK_put {K:PySem.W.Frag} {G:Hp} {k d:D} {a b:V} {kvs:List (D×D)} {es:List (V×V)} (h1:Den K G k a) (h2:Den K G d b) (h:DenK K G kvs es):DenK K G (putK k d kvs) (putE (kIx k kvs) a b es):=by
  unfold putK putE
  cases kIx k kvs with
  | some j=>exact denK_modify h2 j h
  | none=>exact denK_append h1 h2 h
def oDnil:Ga->R (List (D×D)):=λ _=>.ok []
theorem inv_big {pins:List (Addr×Obj)} {σ:L2.St} {H:Hp} {s:Shared} (I:Inv X pins σ H s):(s.heap.objs.size == sysModules)=false:=by
  have h:mainGlobals < s.heap.objs.size:=(I.mod.glob.keeps I.bk).lt
  have h2:sysModules < s.heap.objs.size:=Nat.lt_trans (by decide) h
  exact beq_eq_false_iff_ne.mpr (Nat.ne_of_gt h2)
theorem dct_new {w:World} {h:Heap} (hs:(h.objs.size == sysModules)=false):DctAt w h.objs.size [] [] (h.push { cls:=.type "dict",data:=.dict #[] }) :=
  ⟨hs,⟨by simp,λ p hp=>nomatch hp⟩,Nat.zero_le _,_,#[],0,Heap.get?_push_size _ rfl,⟨rfl,rfl,rfl⟩,rfl,trivial⟩
theorem od_nil:OdD X W (.Dict [] [] pos) oDnil:=by
  refine ⟨λ σ H Q=>∀ p,H p=none->Q (.ref p) (upd H p (.ext (DctAt X.w p [] []))),λ pins s σ H Q I h=>?_,λ H₀ G₀ Γ σ H G R Q w p hp=>?_⟩
  · exact wpAny_Dict_empty ⟨.ref s.heap.objs.size,_,I.laid (a:=s.heap.objs.size) (t':=s.toks) (λ _ _ q=>Heap.get?_push_of_some _ q) (Nat.le_refl _) (dct_ok (dct_new (inv_big I))),rfl,h _ (I.hok.fresh (Nat.le_refl _))⟩
  · have E:=Ext.own R.gh hp (.ext (DctAt X.w p [] []))
    exact w p [] _ _ E hp upd_same (R.gh.free hp) trivial
end
end Wy


namespace Wy
open PySem PySem.Spec PyProof.Rows L2
def encK (kvs:List (D×D)):D:=.lst (kvs.map λ p=>.tup [p.1,p.2])
def decP:D->D×D
  | .tup [a,b]=>(a,b)
  | _=>(.non,.non)
def decK:D->List (D×D)
  | .lst ds=>ds.map decP
  | _=>[]
theorem decK_encK (kvs:List (D×D)):decK (encK kvs)=kvs:=by
  unfold encK
  show List.map decP (List.map _ kvs)=kvs
  rw [List.map_map]
  conv=>rhs; rw [<- List.map_id kvs]
  exact List.map_congr_left λ p _=>rfl
def DenP (K:PySem.W.Frag) (w:World) (H G:Hp):List Bool->List D->List V->Prop
  | [],[],[]=>True
  | true::bs,d::ds,v::vs=>(∃ kvs a es,d=encK kvs/\v=.ref a/\H a=some (.ext (DctAt w a kvs es))/\DenK K G kvs es)/\DenP K w H G bs ds vs
  | false::bs,d::ds,v::vs=>Den K G d v/\DenP K w H G bs ds vs
  | _,_,_=>False
theorem DenP.len {K:PySem.W.Frag} {w:World} {H G:Hp}:∀ {bs:List Bool} {ds:List D} {vs:List V},DenP K w H G bs ds vs->ds.length=bs.length/\vs.length=bs.length
  | [],[],[],_=>⟨rfl,rfl⟩
  | true::bs,d::ds,v::vs,⟨_,r⟩=>by have:=r.len; simp [this.1,this.2]
  | false::bs,d::ds,v::vs,⟨_,r⟩=>by have:=r.len; simp [this.1,this.2]
  | [],[],_::_,h=>h.elim
  | [],_::_,_,h=>h.elim
  | true::_,[],_,h=>h.elim
  | false::_,[],_,h=>h.elim
  | true::_,_::_,[],h=>h.elim
  | false::_,_::_,[],h=>h.elim
def begK (w:World):List Bool->List D->Ga
  | true::bs,d::ds=>.vdi w (decK d)::begK w bs ds
  | false::bs,d::ds=>.val d::begK w bs ds
  | _,_=>[]
def beginK (w:World) (bs:List Bool) (N:List Str) (ds:List D):Ga:=begK w bs ds++List.replicate (N.length - ds.length) Sl.un
theorem begK_nomu {w:World}:∀ {bs:List Bool} {ds:List D} {x:Sl},x∈begK w bs ds->x.mu=false
  | true::bs,d::ds,x,h=>by
    rcases List.mem_cons.mp h with rfl | h
    · rfl
    · exact begK_nomu h
  | false::bs,d::ds,x,h=>by
    rcases List.mem_cons.mp h with rfl | h
    · rfl
    · exact begK_nomu h
  | [],ds,x,h=>by cases ds <;> cases h
  | true::_,[],x,h=>by cases h
  | false::_,[],x,h=>by cases h
theorem slK {K:PySem.W.Frag} {w:World} {H G:Hp}:∀ {bs:List Bool} {ds:List D} {vs:List V},DenP K w H G bs ds vs->SlL K H H G (begK w bs ds) (vs.map some)
  | [],[],[],_=>SlL.vals (ds:=[]) (us:=[]) (denL_nil.mpr rfl)
  | true::bs,d::ds,v::vs,⟨⟨kvs,a,es,h1,h2,h3,h4⟩,r⟩=>by
    subst h1 h2
    have s:=(SlL.one (K:=K) (H₀:=H) (H:=H) (G:=G) (x:=.vdi w (decK (encK kvs))) (o:=some (V.ref a)) (by rw [decK_encK]; exact ⟨a,es,rfl,h3,some_ne h3,h4⟩)).append (slK r)
    exact s
  | false::bs,d::ds,v::vs,⟨h,r⟩=>(SlL.one (K:=K) (H₀:=H) (H:=H) (G:=G) (x:=.val d) (o:=some v) ⟨v,rfl,h⟩).append (slK r)
  | [],[],_::_,h=>h.elim
  | [],_::_,_,h=>h.elim
  | true::_,[],_,h=>h.elim
  | false::_,[],_,h=>h.elim
  | true::_,_::_,[],h=>h.elim
  | false::_,_::_,[],h=>h.elim
theorem rep_beginK {K:PySem.W.Frag} {w:World} {H G:Hp} {N:List Str} {bs:List Bool} {ds:List D} {vs:List V} (g:Same G H) (tb:TabIn K H G) (l:DenP K w H G bs ds vs):Rep K H G (beginK w bs N ds) (L2.start N vs) H G:=by
  have hl:=l.len
  have e:L2.start N vs=vs.map some++List.replicate (N.length - ds.length) none:=by
    unfold L2.start
    rw [hl.1,<- hl.2]
  rw [e]
  have s:=(slK l).append (SlL.uns (H₀:=H) (H:=H) (K:=K) (G:=G) (N.length - ds.length))
  refine ⟨.refl g,tb,s.1,s.2,λ i j y z a h1 h2 m1 m2 _ _=>?_⟩
  have:=List.mem_of_getElem? h1
  rcases List.mem_append.mp this with h | h
  · rw [begK_nomu h] at m1; cases m1
  · rw [(List.mem_replicate.mp h).2] at m1; cases m1
def spK (K:PySem.W.Frag) (w:World) (bs:List Bool) (F:List D->R D):Sp:=λ vs H Q E=>∃ (G:Hp) (ds:List D),Same G H/\TabIn K H G/\DenP K w H G bs ds vs /\
  (F ds).want (λ c=>∀ cls dx H' G',ClsIs K c cls->Ext H G H' G'->E cls dx H') (λ d=>∀ v H' G',Ext H G H' G'->Den K G' d v->Q v H')
def callK (w:World) (bs:List Bool) (N:List Str) (S:Ga->RS) (ds:List D):R D:=match S (beginK w bs N ds) with
  | .rt d=>.ok d
  | .nx _=>.ok .non
  | .ex c _=>.ex c
  | _=>.no
noncomputable def parW {α:Type} (g:World->R α):R α:=open Classical in if h:∃ r,∀ w,g w=r then Classical.choose h else .no
theorem parW_eq {α:Type} {g:World->R α} {r:R α} (h:∀ w,g w=r) (w0:World):parW g=r:=by
  unfold parW
  have hx:∃ r,∀ w,g w=r:=⟨r,h⟩
  rw [dif_pos hx]
  rw [<- Classical.choose_spec hx w0,h w0]
theorem parW_want {α:Type} {g:World->R α} {E:Str->Prop} {P:α->Prop} (w:(parW g).want E P) (w0:World):(g w0).want E P:=by
  unfold parW at w
  split at w
  · rename_i h; rw [Classical.choose_spec h w0]; exact w
  · exact w.elim
section
variable {P:Program} {w:World} {K:PySem.W.Frag} {mg:Str->Option Value} {base:Heap}
theorem fn_K1 {x qual:Str} {st:Stmt} {f:Addr} {fd:FuncData} {N ps:List Str} {bs:List Bool} {k:Nat} {S:Ga->RS} (Fn:Fun K x qual st f fd) (Sc:FnScope N ps (defScope st)) (hbs:bs.length=ps.length)
    (B:∀ (cdv:Value) (A:Around) (outer:List Env) (s:Shared) (H:Hp) (W:XP) (E:XK),Room k (A.deeper (envOfC qual (defScope st) s.heap.objs.size f cdv)) ->
      ExDs ((cxOf (CX1 P w) P w K mg base N qual (defScope st) f cdv A outer s H E).xw W) W (defBody st) S) :
    FnOk P w K mg base (CX1 P w) (k + 1) f fd ps (spK K w bs λ ds=>callK w bs N S ds):=by
  obtain ⟨oc,od,kV,doc,pm,an,cdv,ct,osl,rfl,lk,hcd⟩:=Fn.ex
  refine fn_of lk hcd Sc (λ vs H Q E h=>?_) λ A outer s H vs Q E hr h=>?_
  · obtain ⟨G,ds,_,_,l,_⟩:=h
    exact l.len.2.trans hbs
  · obtain ⟨G,ds,g,tb,l,q⟩:=h
    obtain ⟨t,pt,hd⟩:=B cdv A outer s H (λ c _ H' G'=>Ext H G H' G'/\∀ cls,ClsIs K c cls->E cls none H') E hr
    refine ⟨t,pss_wish pt ?_,hd H G _ _ H G (rep_beginK g tb l) _ ?_⟩
    · rintro e s' ⟨ea,σ,H',G',c,C,rfl,I,hc,⟨_,hw⟩,x⟩
      have Dc:DefCx (cxOf (CX1 P w) P w K mg base N qual (defScope st) f cdv A outer s H E):=⟨rfl,rfl,rfl⟩
      show wpAny _ _ (leaving _ (.ref ea)) _ _ s'
      unfold leaving
      refine wpAny_bind (note_ok (X:=cxOf (CX1 P w) P w K mg base N qual (defScope st) f cdv A outer s H E) Dc I x λ s1 I1 x1=>?_)
      refine flight_ok (X:=cxOf (CX1 P w) P w K mg base N qual (defScope st) f cdv A outer s H E) (o:=none) I1 x1 rfl λ s2 I2 x2=>?_
      have young:∀ b,Fp (cxOf (CX1 P w) P w K mg base N qual (defScope st) f cdv A outer s H E) [] H' b->s.heap.get? b=none/\H' b=none:=λ b hb=>⟨hb.new,hb.fr⟩
      exact ⟨ea,C,H',rfl,I2.os,I2.bare,I2.base,I2.hok,hw _ ⟨C,rfl,hc⟩,x2.at young (.inl rfl)⟩
    · unfold callK at q
      dsimp only at q
      cases hS:S (beginK w bs N ds) with
      | rt d=>rw [hS] at q; exact λ v H' G' e dv=>q v H' G' e dv
      | nx Γ=>rw [hS] at q; exact λ σ H' G' R=>q _ H' G' R.ex den_non
      | bk Γ=>rw [hS] at q; exact q.elim
      | ct Γ=>rw [hS] at q; exact q.elim
      | ex c Γ=>rw [hS] at q; exact λ σ H' G' R=>⟨R.ex,λ cls hcls=>q cls none H' G' hcls R.ex⟩
      | no=>rw [hS] at q; exact q.elim
theorem spK_parW {bs:List Bool} {F:World->List D->R D} {vs:List V} {H:Hp} {Q:VK} {E:XK} (h:spK K w bs (λ ds=>parW λ w=>F w ds) vs H Q E):spK K w bs (F w) vs H Q E:=by
  obtain ⟨G,ds,g,t,l,q⟩:=h
  exact ⟨G,ds,g,t,l,parW_want q w⟩
theorem spF_parW {n:Nat} {F:World->List D->R D} {vs:List V} {H:Hp} {Q:VK} {E:XK} (h:spF K mg n (λ ds=>parW λ w=>F w ds) vs H Q E):spF K mg n (F w) vs H Q E:=by
  obtain ⟨G,ds,g,t,l,hl,q⟩:=h
  exact ⟨G,ds,g,t,l,hl,parW_want q w⟩
end
section
variable {X:Cx} {W:XP} {e:Expr} {es:List Expr} {f:Ga->R D} {fd:Ga->R (List (D×D))} {fl:Ga->R (List D)} {pos p:Pos} {x:Str}
def AvK (X:Cx) (W:XP) (es:List Expr) (bs:List Bool) (f:Ga->R (List D)):Prop:=∃ t,PA X es t /\
  ∀ (H₀ G₀:Hp) (Γ:Ga) (σ:L2.St) (H G:Hp),Rep X.K H₀ G₀ Γ σ H G->∀ (Q:List V->Hp->Prop),
    (f Γ).want (exAt W σ H G) (λ ds=>∀ vs H' G',Ext H G H' G'->DenP X.K X.w H' G' bs ds vs->Q vs H')->t σ H Q
theorem ak_nil:AvK X W [] [] aNil:=⟨_,pa_nil,λ _ _ _ _ H G R Q w=>w [] H G (.refl R.gh) trivial⟩
theorem ak_ev {bs:List Bool} (he:EvD X W e f) (hr:AvK X W es bs fl) (hs:starEach (e::es) X.env=(false,eval e X.env)::starEach es X.env:=by rfl):AvK X W (e::es) (false::bs) (aCons f fl):=by
  obtain ⟨t,pt,q⟩:=he
  obtain ⟨ts,ps,qs⟩:=hr
  refine ⟨_,pa_cons pt ps hs,λ H₀ G₀ Γ σ H G R Q w=>?_⟩
  refine q _ _ _ _ _ _ R _ (wStep w (λ _ h=>h) λ d w v H1 G1 E1 d1=>?_)
  refine qs _ _ _ _ _ _ (R.after E1) _ (wStep w (λ _ h=>h.up E1) λ ds w vs H2 G2 E2 d2=>?_)
  exact w _ H2 G2 (E1.trans E2) ⟨d1.up E2.gg,d2⟩
def aDic (fd:Ga->R (List (D×D))) (fl:Ga->R (List D)):Ga->R (List D):=λ Γ=>(fd Γ).bind λ kvs=>(fl Γ).bind λ r=>.ok (encK kvs::r)
theorem ak_di {bs:List Bool} (he:DiD X W e fd) (hr:AvK X W es bs fl) (hs:starEach (e::es) X.env=(false,eval e X.env)::starEach es X.env:=by rfl):AvK X W (e::es) (true::bs) (aDic fd fl):=by
  obtain ⟨t,pt,q⟩:=he
  obtain ⟨ts,ps,qs⟩:=hr
  refine ⟨_,pa_cons pt ps hs,λ H₀ G₀ Γ σ H G R Q w=>?_⟩
  refine q _ _ _ _ _ _ R _ (wStep w (λ _ h=>h) λ kvs w a es1 H1 G1 E1 h1 k1=>?_)
  refine qs _ _ _ _ _ _ (R.after E1) _ (wStep w (λ _ h=>h.up E1) λ ds w vs H2 G2 E2 d2=>?_)
  exact w _ H2 G2 (E1.trans E2) ⟨⟨kvs,a,es1,rfl,rfl,E2.hh.nt _ _ h1 rfl,k1.up E2.gg⟩,d2⟩
theorem ev_callK {CX:CXT} {k:Nat} {fa:Addr} {fd:FuncData} {ps:List Str} {bs:List Bool} {F:List D->R D} (Fn:FnOk X.prog X.w X.K X.mg X.base CX k fa fd ps (spK X.K X.w bs F)) (hx:PassW CX X W) (hr:Room k X.A) (hg:Gl X x) (hm:X.mg x=some (.ref fa))
    (hk:PySem.W.keepIn X.K (.ref fa)=true) (hb:Binds X.K fd ps []) (ha:AvK X W (e::es) bs fl) (hdb:(x == ("__debug__":Str))=false:=by decide)
    (he:starEach (e::es) X.env=(false,eval e X.env)::starEach es X.env:=by rfl) (hpl:(backTo pos (starEach es X.env)).any (·.1)=false:=by rfl) :
    EvD X W (.Call (.Name x p) (e::es) [] pos) (eCall F fl):=by
  obtain ⟨t,pt,q⟩:=ha
  refine ⟨_,pe_callX Fn hr hg hm hk hb hx pt hdb he hpl,λ H₀ G₀ Γ σ H G R Q w=>?_⟩
  refine q _ _ _ _ _ _ R _ (wStep w (λ _ h=>h) λ ds w vs H1 G1 E1 d1=>?_)
  exact ⟨G1,ds,E1.gh,E1.tab R.tab,d1,wImp w (λ c h cls dx H' G' hc E2=>⟨c,G',hc,h H' G' (E1.trans E2)⟩) λ d w v H' G' E2 d2=>w v H' G' (E1.trans E2) d2⟩
end
end Wy


namespace Wy
open PySem PySem.Spec PyProof.Rows L2
theorem world_any:Nonempty World:=⟨⟨λ _ _=>0,{ strHash:=λ _=>0,shareClass:=λ _=>default,mergeTok:=λ _=>default,idOf:=λ _=>0,idOfShared:=λ _ _=>0,followText:=λ _=>false,idOfImm:=λ _=>0 }⟩⟩
theorem list_no_keys:typeLookup (.type "list") "keys"=pure none:=by rw [typeLookup_type,builtinLookup_eq_fast]; kernel_rfl
section
variable {prog:Program} {w:World} {A:Around} {E:Value->Shared->Prop} {s:Shared}
theorem keys_miss {a:Addr} {xs:Array Value} {k:Nat} {sl:Array (Option Value)} {Q:Option Value->Shared->Prop} (ho:s.heap.get? a=some { cls:=.type "list",dict:=none,data:=.seq xs k,slots:=sl }) (hA:A.handled=none)
    (q:∀ h' tk,(∀ b o,s.heap.get? b=some o->h'.get? b=some o)->Q none { s with heap:=h',toks:=tk }):wpAny (model prog w) A (getAttr? (.ref a) "keys") Q E s:=by
  obtain ⟨hp,g,d,tk0,os⟩:=s
  have ty:∀ tk',(⟨hp,g,d,tk',os⟩:Shared).TypeIs (.ref a) "list":=λ _=>⟨_,ho,rfl⟩
  have g1:=sub_AttributeError
  have g3:=F.slot_list_getattribute.lookup
  have g4:=F.slot_list_getattribute.bind (.ref a)
  have g5:=am_list_getattr_none
  unfold getAttr? getAttrBy? getAttrBy
  repeat (any_goals (first | assumption | exact ty _ | ((with_reducible show wpAny _ _ (call (Value.builtin "list.__getattribute__") _ _) _ _ _); refine call_meets F.slot_list_getattribute (ty _) am_entry_list_getattribute (F.args_list_getattribute_2 _ _) (meets_getattribute_miss_list a xs k sl "keys" _ list_no_keys (by decide)) ⟨ho,hA,λ h' tk' e hx'=>?_⟩) | wp_step))
  obtain ⟨t1,u1,hthere⟩:=hx'.there
  have tye:(⟨h',g,d,tk',os⟩:Shared).TypeIs (.ref e) "AttributeError":=⟨_,hthere,rfl⟩
  show wpAny _ _ (getattributeRaised (.ref a) _ _ (.ref e) none false false) _ _ _
  unfold getattributeRaised
  repeat (any_goals (first | assumption | wp_step))
  exact q h' tk' hx'.keeps
end
theorem entry_duloop:entryFor table "dict.update.loop"=some Builtin.«dict.update.loop»:=entryFor_of_tree (by kernel_rfl)
theorem plain_duloop:plainId "dict.update.loop"=true:=by decide +kernel
def addK (acc:List (D×D)) (p:D×D):List (D×D):=putK p.1 p.2 acc
def mkK (kvs:List (D×D)):List (D×D):=kvs.foldl addK []
theorem addK_len:∀ (kvs acc:List (D×D)),(kvs.foldl addK acc).length<=acc.length + kvs.length
  | [],acc=>Nat.le_refl _
  | p::kvs,acc=>by
    have h1:=addK_len kvs (addK acc p)
    have h2:(addK acc p).length<=acc.length + 1:=putK_len
    simp only [List.foldl_cons,List.length_cons]
    omega
section
variable {X:Cx} {pins:List (Addr×Obj)} {σ:L2.St} {H G:Hp} {s0:Shared} {A:Around} {R:Result->Shared->Prop}
theorem pair_items {a:Addr} {u1 u2:Value} {E:Value->Shared->Prop} {s:Shared} {M:Model} {Q:List Value->Shared->Prop} (h:IsTup s.heap a #[u1,u2]) (q:Q [u1,u2] s):wpAny M A (Builtin.Dict.pairItems (.ref a)) Q E s:=by
  obtain ⟨o,ho,hc,n,hd⟩:=h
  have ty:s.TypeIs (.ref a) "tuple":=⟨o,ho,hc⟩
  unfold Builtin.Dict.pairItems
  refine wpAny_bind (wpAny_typeOf ty ?_)
  refine wpAny_ite_split (λ _=>?_) λ z=>absurd rfl z
  exact wpAny_bind (wpAny_seqItems ho hd (wpAny_pure q))
theorem dict_loop (I0:Inv X pins σ H s0) (g:Same G H) (hh:A.handled=none) (hu:A.units + 60 < cLine) {d It l:Addr} {its:List Value} {kvs:List (D×D)} {vs:List V} (hl:DenL X.K G (kvs.map λ p=>D.tup [p.1,p.2]) vs) (hv:Vals vs its) (hk8:∀ p∈kvs,hk 8 p.1=true) (hz:kvs.length < 1000000)
    (hd0:s0.heap.objs.size<=d) (hI0:s0.heap.objs.size<=It) (hdI:d≠It) (hll:l < s0.heap.objs.size)
    (hR:∀ h' tk es,(∀ b o,s0.heap.get? b=some o->h'.get? b=some o)->DctAt X.w d (mkK kvs) es h'->DenK X.K G (mkK kvs) es->R (.ok (.ret .none)) { s0 with heap:=h',toks:=tk }) :
    ∀ (m i:Nat) (h:Heap) (tk:Nat) (t:Tok) (es:List (V×V)),kvs.length - i=m->i<=kvs.length->(∀ b o,s0.heap.get? b=some o->h.get? b=some o)->h.IsListIter It l i->h.IsList l its.toArray->DctAt X.w d ((kvs.take i).foldl addK []) es h->DenK X.K G ((kvs.take i).foldl addK []) es ->
      codeAny (model X.prog X.w) A (.builtin "dict.update.loop" ⟨[.ref d,.ref It,.int i t,.none],[]⟩) R { s0 with heap:=h,toks:=tk }:=by
  have hlen:kvs.length=its.length:=by rw [<- hv.length,<- hl.length]; simp
  have W:=(Walks.list (prog:=X.prog) (w:=X.w) (A:=A.in1) hh It l (Nat.ne_of_lt (Nat.lt_of_lt_of_le hll hI0)) its.toArray).toS
  have hdf:d∉[It,l]:=by
    simp only [List.mem_cons,List.not_mem_nil,or_false,not_or]
    exact ⟨hdI,λ e=>by rw [e] at hd0; exact absurd hll (Nat.not_lt.mpr hd0)⟩
  intro m
  induction m with
  | zero =>
    intro i h tk t es hm hi keep hit hil hD hK
    have hin:i=kvs.length:=by omega
    subst hin
    rw [List.take_length] at hD hK
    refine codeAny_builtin entry_duloop ?_
    rw [Around.under_plainId plain_duloop _]
    show wpAny _ A.in1 (pyNext (.ref It)>>=λ _=>_) _ _ _
    refine wpAny_bind (W.done { s0 with heap:=h,toks:=tk } _ _ (by rw [List.size_toArray,<- hlen]; exact ⟨hit,hil⟩) λ s' hm=>?_)
    obtain ⟨h',g',d',tk',os'⟩:=s'
    have eg:g'=s0.gens:=hm.gens
    have ed:d'=s0.drawn:=hm.drawn
    have eo:os'=s0.os:=hm.os
    subst eg; subst ed; subst eo
    show wpAny _ _ (Builtin.Dict.addKeywords d []>>=λ _=>ret Value.none) _ _ _
    have hm':∀ b o,b≠It->h.get? b=some o->h'.get? b=some o:=λ b o nb e=>hm.heap b o (by simpa using nb) e
    refine wpAny_bind (wpAny_pure (wpAny_pure (hR h' tk' es (λ b o e=>hm' b o (λ z=>by subst z; exact absurd (Heap.lt_size e) (Nat.not_lt.mpr hI0)) (keep b o e)) (dct_stable _ _ hD λ o e=>hm' d o hdI e) hK)))
  | succ m ih =>
    intro i h tk t es hm hi keep hit hil hD hK
    have hlt:i < kvs.length:=by omega
    refine codeAny_builtin entry_duloop ?_
    rw [Around.under_plainId plain_duloop _]
    show wpAny _ A.in1 (pyNext (.ref It)>>=λ _=>_) _ _ _
    refine wpAny_bind (W.item i { s0 with heap:=h,toks:=tk } _ _ (by rw [List.size_toArray,<- hlen]; exact hlt) ⟨hit,hil⟩ λ v s' hP hst hm=>?_)
    obtain ⟨h',g',d',tk',os'⟩:=s'
    have eg:g'=s0.gens:=hm.gens
    have ed:d'=s0.drawn:=hm.drawn
    have eo:os'=s0.os:=hm.os
    subst eg; subst ed; subst eo
    have hm':∀ b o,b≠It->h.get? b=some o->h'.get? b=some o:=λ b o nb e=>hm.heap b o (by simpa using nb) e
    have keep':∀ b o,s0.heap.get? b=some o->h'.get? b=some o:=λ b o e=>hm' b o (λ z=>by subst z; exact absurd (Heap.lt_size e) (Nat.not_lt.mpr hI0)) (keep b o e)
    have I':Inv X pins σ H { s0 with heap:=h',toks:=tk' }:=I0.kept keep'
    obtain ⟨hit',hil'⟩:h'.IsListIter It l (i + 1)/\h'.IsList l its.toArray:=hst
    -- the pair
    have e1:(kvs.map λ p=>D.tup [p.1,p.2])[i]?=some (D.tup [kvs[i].1,kvs[i].2]):=by rw [List.getElem?_map,List.getElem?_eq_getElem hlt]; rfl
    obtain ⟨x,ex,dx⟩:=hl.get e1
    obtain ⟨u,eu,ru⟩:=hv.get ex
    have:v=u:=by
      have q:its.toArray[i]?=some v:=hP
      rw [List.getElem?_toArray,eu] at q
      cases q; rfl
    subst this
    obtain ⟨a,ws,rfl,sq,lw⟩:=den_tup.mp dx
    obtain rfl:v=Value.ref a:=ru
    obtain ⟨v1,r1,rfl,d1,lw⟩:=denL_cons.mp lw
    obtain ⟨v2,r2,rfl,d2,lw⟩:=denL_cons.mp lw
    cases denL_nil.mp lw
    obtain ⟨ps,rps,tup,_⟩:=I'.tuple (Same.seqT g sq)
    obtain ⟨u1,u2,rfl,q1,q2⟩:=vals2 rps
    have hkk:hk 8 kvs[i].1=true:=hk8 _ (List.getElem_mem hlt)
    have hD':DctAt X.w d ((kvs.take i).foldl addK []) es h':=dct_stable _ _ hD λ o e=>hm' d o hdI e
    have hz':((kvs.take i).foldl addK []).length < 1000000:=by
      have:=addK_len (kvs.take i) []
      simp only [List.length_nil,List.length_take] at this
      omega
    show wpAny _ A.in1 (holding [Value.ref a] _>>=λ _=>_) _ _ _
    refine wpAny_bind (wpAny_holding (wpAny_bind (wpAny_tryCatch (pair_items tup ?_))))
    show wpAny _ A.in1 (holding [u1,u2] (dictSet d u1 u2)) _ _ _
    refine wpAny_holding (set_D (A:=A.in1) I' g hD' hK ⟨d1,q1,hkk⟩ (by show A.units + 1 + 20 < cLine; omega) hz' (dv:=kvs[i].2) q2 λ h2 tk2 hs2 hD2=>?_)
    refine wpAny_pure ⟨plainId_quiet plain_duloop _,?_⟩
    have et:(kvs.take (i + 1)).foldl addK []=putK kvs[i].1 kvs[i].2 ((kvs.take i).foldl addK []):=by
      rw [List.take_succ_eq_append_getElem hlt,List.foldl_append]
      rfl
    have oth:∀ b o,b≠d->h'.get? b=some o->h2.get? b=some o:=λ b o nb e=>by rw [hs2.2 b nb]; exact e
    refine ih (i + 1) h2 tk2 0 _ (by omega) hlt (λ b o e=>oth b o (λ z=>by subst z; exact absurd (Heap.lt_size e) (Nat.not_lt.mpr hd0)) (keep' b o e)) ?_ ?_ (by rw [et]; exact hD2) (by rw [et]; exact denK_put d1 d2 hK)
    · obtain ⟨o,ho,r⟩:=hit'
      exact ⟨o,oth It o (Ne.symm hdI) ho,r⟩
    · obtain ⟨o,ho,r⟩:=hil'
      exact ⟨o,oth l o (λ z=>by subst z; exact absurd hll (Nat.not_lt.mpr hd0)) ho,r⟩
theorem call_dictL (hc:X.calm=true) (hu:X.A.units + 150 < cLine):CallR X (.type "dict") (λ xs H Q=>∃ (G:Hp) (l:Addr) (kvs:List (D×D)) (vs:List V),xs=[.ref l]/\Same G H/\SqL X.K H l vs/\DenL X.K G (kvs.map λ p=>D.tup [p.1,p.2]) vs/\(∀ p∈kvs,hk 8 p.1=true)/\kvs.length < 1000000 /\
    ∀ p es,H p=none->DenK X.K G (mkK kvs) es->Q (.ref p) (upd H p (.ext (DctAt X.w p (mkK kvs) es)))):=by
  intro pins s σ H xs us Q I r h
  obtain ⟨G,l,kvs,vs,rfl,g,sq,dl,hk8,hz,q⟩:=h
  obtain ⟨u,rfl,ru⟩:=vals1 r
  obtain rfl:u=Value.ref l:=ru
  obtain ⟨its,rv,pl,hzl⟩:=I.list sq
  have hli:=pl.isList
  obtain ⟨ol,nl,hol,hcl,hdl,hdat⟩:=pl
  obtain ⟨oc,od,odt,osl⟩:=ol
  simp only at hcl hdl hdat
  subst hcl; subst hdl; subst hdat
  have hll:l < s.heap.objs.size:=Heap.lt_size hol
  have hh:X.A.handled=none:=I.ok.hd hc
  have hbig:=inv_big I
  have hnew:=dct_new (w:=X.w) (h:=s.heap) hbig
  refine callType_codes (Q₁:=λ obj s₁=>obj=.ref s.heap.objs.size/\s₁={ s with heap:=s.heap.push { cls:=.type "dict",data:=.dict #[] } }) PySem.F.kt_called_dict (PySem.F.kt_typeCall_dict_1 _) PySem.F.entry_dict_init (kt_code_dict_new _ ⟨rfl,rfl⟩) ?_
  rintro obj s1 ⟨rfl,rfl⟩
  have tyd:Shared.TypeIs { s with heap:=s.heap.push { cls:=.type "dict",data:=.dict #[] } } (.ref s.heap.objs.size) "dict":=⟨_,Heap.get?_push_size _ rfl,rfl⟩
  have hol1:=Heap.get?_push_of_some { cls:=.type "dict",data:=.dict #[] } hol
  have tyl:Shared.TypeIs { s with heap:=s.heap.push { cls:=.type "dict",data:=.dict #[] } } (.ref l) "list":=⟨_,hol1,rfl⟩
  refine ⟨tyd,PySem.F.args_dict_init_2 _ _,?_⟩
  unfold Builtin.«dict.__init__» Builtin.Dict.selfAndRest
  refine wpAny_bind (wpAny_bind (wpAny_notOrdered_dict tyd (wpAny_pure ?_)))
  show wpAny _ _ (Builtin.Dict.updateFrom "dict.__init__" s.heap.objs.size (.ref l) [] .none) _ _ _
  unfold Builtin.Dict.updateFrom
  refine wpAny_bind (wpAny_typeOf tyl ?_)
  refine wpAny_ite_split (λ _=>?_) λ z=>absurd (by decide) z
  refine wpAny_bind (keys_miss hol1 hh λ h1 tk1 keep1=>?_)
  refine wpAny_ite_split (λ _=>?_) λ z=>absurd rfl z
  refine wpAny_bind (wpAny_rule ?_)
  have hl2:h1.IsList l its.toArray:=⟨_,keep1 l _ hol1,rfl,_,rfl⟩
  refine wpAny_bind (wpAny_pyIter_list hl2 (wpAny_pure ⟨plainId_quiet plain_duloop _,?_⟩))
  have hsz:s.heap.objs.size < h1.objs.size:=Heap.lt_size (keep1 _ _ (Heap.get?_push_size _ rfl))
  refine dict_loop (A:=X.A.in1) (s0:=s) I g hh (by show X.A.units + 1 + 60 < cLine; omega) (d:=s.heap.objs.size) (It:=h1.objs.size) (l:=l) (its:=its) (kvs:=kvs) dl rv hk8 hz (Nat.le_refl _) (Nat.le_of_lt hsz) (Nat.ne_of_lt hsz) hll ?_ kvs.length 0 _ tk1 _ [] (by omega) (Nat.zero_le _) (λ b o e=>Heap.get?_push_of_some _ (keep1 b o (Heap.get?_push_of_some _ e))) ⟨_,Heap.get?_push_size _ rfl,rfl,rfl⟩ (hl2.push _) ?_ trivial
  · intro h' tk es keep hD hK
    refine ⟨rfl,.ref s.heap.objs.size,_,I.laid (a:=s.heap.objs.size) (t':=tk) keep (Nat.le_refl _) (dct_ok hD),rfl,q _ es (I.hok.fresh (Nat.le_refl _)) hK⟩
  · exact dct_stable _ _ hnew λ o e=>Heap.get?_push_of_some _ (keep1 _ o e)
end
end Wy


namespace Wy
open PySem PySem.Spec PyProof.Rows L2
def unP:D->Option (D×D)
  | .tup [a,b]=>some (a,b)
  | _=>none
def unPs:List D->Option (List (D×D))
  | []=>some []
  | d::ds=>(unP d).bind λ p=>(unPs ds).map (p::·)
theorem unP_eq {d:D} {p:D×D} (h:unP d=some p):d=.tup [p.1,p.2]:=by
  unfold unP at h
  split at h
  · cases h; rfl
  · cases h
theorem unPs_eq:∀ {ds:List D} {kvs:List (D×D)},unPs ds=some kvs->ds=kvs.map λ p=>D.tup [p.1,p.2]
  | [],kvs,h=>by cases h; rfl
  | d::ds,kvs,h=>by
    unfold unPs at h
    obtain ⟨p,e1,e2⟩:=Option.bind_eq_some_iff.mp h
    obtain ⟨r,e3,rfl⟩:=Option.map_eq_some_iff.mp e2
    rw [unP_eq e1,unPs_eq e3]
    rfl
theorem unPs_map:∀ (kvs:List (D×D)),unPs (kvs.map λ p=>D.tup [p.1,p.2])=some kvs
  | []=>rfl
  | p::kvs=>by
    rw [List.map_cons]
    unfold unPs
    rw [unPs_map kvs]
    rfl
def pairsD (ds:List D):Option (List (D×D)):=(unPs ds).bind λ kvs=>if (kvs.all λ p=>hk 8 p.1)=true/\kvs.length < 1000000 then some (mkK kvs) else none
def oDpairs (fs:Ga->R (Bool×List D)):Ga->R (List (D×D)):=λ Γ=>(fs Γ).bind λ p=>match p.1 with
  | true=>.no
  | false=>.ofO (pairsD p.2)
theorem boot_dict:bootBuiltins "dict"=some (.type "dict"):=by kernel_rfl
section
variable {X:Cx} {W:XP} {a b c e:Expr} {fa fb fc f:Ga->R D} {fs:Ga->R (Bool×List D)} {fd:Ga->R (List (D×D))} {pos pos' p2 apos cpos:Pos} {x:Str}
theorem od_pairs (hc:X.calm=true) (hu:X.A.units + 150 < cLine) (hg:Gl X "dict") (hm:X.mg "dict"=none) (ha:SqD X W e fs) (hs:starEach [e] X.env=[(false,eval e X.env)]:=by rfl) :
    OdD X W (.Call (.Name "dict" p2) [e] [] pos) (oDpairs fs):=by
  obtain ⟨t,p,q⟩:=ha
  refine ⟨_,pe_callTy (call_dictL hc hu) hg hm boot_dict (pa_cons p pa_nil hs) (by decide) (by decide) hs rfl,λ H₀ G₀ Γ σ H G R Q w=>?_⟩
  refine q _ _ _ _ _ _ R _ (wStep w (λ _ h=>h) λ pp w a vs H1 G1 E1 s1 l1=>?_)
  obtain ⟨bb,ds⟩:=pp
  cases bb with
  | true=>exact w.elim
  | false =>
    obtain ⟨kvs',e2,w2⟩:=wOfO w
    unfold pairsD at e2
    obtain ⟨kvs,e3,e4⟩:=Option.bind_eq_some_iff.mp e2
    split at e4
    · rename_i hz
      cases e4
      have:=unPs_eq e3
      subst this
      refine ⟨G1,a,kvs,vs,rfl,E1.gh,s1,l1,λ p hp=>?_,hz.2,λ p es hp hK=>?_⟩
      · exact List.all_eq_true.mp hz.1 p hp
      · have E2:=Ext.own E1.gh hp (.ext (DctAt X.w p (mkK kvs) es))
        exact w2 p es _ _ (E1.trans E2) (E1.hh.free hp) upd_same (E1.gh.free hp) hK
    · cases e4
def tBMD (X:Cx) (r:V->List V->Hp->VK->Prop) (to:TE) (t:TA):TE:=λ σ H Q=>to σ H λ x H1=>(∃ a kvs es,x=.ref a/\H1 a=some (.ext (DctAt X.w a kvs es)))/\t σ H1 λ xs H2=>r x xs H2 Q
theorem pe_bmD {o e:Expr} {es:List Expr} {to:TE} {t:TA} {name:Str} {id:String} {r:V->List V->Hp->VK->Prop} (pa:PlainAttrs "dict") (slot:Slot "dict" name id) (hty:typeOf (.builtin id)=pure (.type "method_descriptor")) (hm:MtR X id r) (ho:PE X o to) (ha:PA X (e::es) t)
    (hbase:attributeBase o name X.env (eval o X.env)=eval o X.env)
    (hfew:((backTo cpos (starEach (e::es) X.env)).all (λ x=>!x.1)&&(backToKw cpos (keywordEach [] X.env)).all (λ x=>x.1.isSome)
     &&decide ((e::es).length + ([]:List Keyword).length + (if ([]:List Keyword).isEmpty then 0 else 1) < 30))=true)
    (hline:(apos.endLine == cpos.line)=true) (hs:starEach (e::es) X.env=(false,eval e X.env)::starEach es X.env) (hplain:(backTo cpos (starEach es X.env)).any (·.1)=false) :
    PE X (.Call (.Attribute o name apos) (e::es) [] cpos) (tBMD X r to t):=by
  intro pins s σ H Q I h
  refine wpAny_Call_method_late hbase hfew hline rfl (thn (ho pins s σ H _ I h) λ v s1 ⟨x,H1,I1,rx,⟨a,kvs,ees,ex,hd⟩,q1⟩=>?_)
  subst ex
  obtain rfl:v=Value.ref a:=rx
  obtain ⟨hS,ko,hz,ob,xs,ep,hob,hex,_⟩:=(I1.hok a _ hd).1
  refine ⟨"dict",id,pa,slot,hty,⟨ob,hob,hex.1⟩,λ b e=>by cases e; exact ⟨ob,hob,hex.2.1⟩,?_⟩
  have hA:=ha cpos pins s1 σ H1 _ I1 q1
  rw [hs] at hA ⊢
  refine Calls.callWith_builtin (by show (false||(backTo cpos (starEach es X.env)).any (·.1))=false; rw [hplain] <;> rfl) (Calls.evalArgs_plain ?_)
  exact thn hA λ us s2 ⟨vs,H2,I2,r2,q2⟩=>hm pins s2 σ H2 (.ref a) vs _ us Q I2 rfl r2 q2
def defK (k d:D) (kvs:List (D×D)):List (D×D):=if (kIx k kvs).isSome then kvs else kvs++[(k,d)]
def rSdef (X:Cx):V->List V->Hp->VK->Prop:=λ x xs H Q=>∃ G d kvs es k kv dv vv,x=.ref d/\xs=[kv,vv]/\Dic X H G d kvs es/\Den X.K G k kv/\hk 8 k=true/\kvs.length < 1000000 /\
  (∀ j q,kIx k kvs=some j->es[j]?=some q->Q q.2 H)/\(kIx k kvs=none->Q vv (upd H d (.ext (DctAt X.w d (kvs++[(k,dv)]) (es++[(kv,vv)])))))
theorem mt_sdef (hu:X.A.units + 150 < cLine):MtR X "dict.setdefault" (rSdef X):=by
  intro pins s σ H x xs v us Q I rx rs h
  obtain ⟨G,d,kvs,es,k,kv,dv,vv,rfl,rfl,D,dk,hk',hz,h1,h2⟩:=h
  obtain rfl:v=Value.ref d:=rx
  obtain ⟨u1,u2,rfl,q1,q2⟩:=vals2 rs
  have ty:=dic_type I D
  obtain ⟨hS,ko,hz',o,ys,ep,ho,ex,hd,en⟩:=dic_open I D
  have hl:=ents_len en
  have hxs:ys.size<=sizeLine:=by rw [sizeLine_eq]; simp only [Array.length_toList] at hl; omega
  refine wpAny_call_entry F.slot_dict_setdefault ty F.entry_dict_setdefault ?_ (F.args_dict_setdefault_3 _ _ _)
  unfold Builtin.«dict.setdefault» Builtin.Dict.keyAndDefault
  refine wpAny_bind (wpAny_bind (wpAny_notOrdered_dict ty ?_))
  show wpAny _ X.A.in1 (pure (d,u1,some u2)) _ _ s
  refine wpAny_pure (wpAny_ite_split (λ z=>absurd z (by rw [hS]; exact Bool.false_ne_true)) λ _=>?_)
  show wpAny _ X.A.in1 (dictSetDefault d u1 u2>>=λ _=>_) _ _ s
  refine wpAny_bind ?_
  unfold dictSetDefault
  refine wpAny_holding (wpAny_bind (hash_D 8 k kv u1 s X.A.in1 _ _ I D.g hk' (by show X.A.units + 1 + 8 < cLine; omega) dk q1 λ tk=>?_))
  have S:Seek X G { s with toks:=tk } X.A.in1 d o ys ep kvs es k u1:=Seek.mk' (I.tok tk) D.g ho hd en D.dk ko hk' (by show X.A.units + 1 + 20 < cLine; omega) dk q1
  refine wpAny_bind (S.find ?_)
  cases z:kIx k kvs with
  | none =>
    refine wpAny_bind (wpAny_rule (wpAny_bind (wpAny_updateDictKeys (s:={ s with toks:=tk }) ho hd (wpAny_pure (wpAny_pure ⟨_,rfl,vv,_,dic_written (kvs':=kvs++[(k,dv)]) (es':=es++[(kv,vv)]) I D (Heap.SameBut.update ..) ⟨hS,?_,?_,?_⟩ tk,q2,h2 z⟩)) hxs)))
    · have:=kok_put (dv:=dv) ko hk'
      unfold putK at this
      rw [z] at this
      exact this
    · simp; omega
    · refine ⟨_,_,ep + 1,Heap.get?_update_self _ ho (Obj.isFreed_of_dict (Obj.data_mapDictKeys hd _)),ex.mapDictKeys _,Obj.data_mapDictKeys hd _,?_⟩
      simp only [Array.toList_push]
      exact ents_append ⟨rfl,q1,q2⟩ en
  | some j =>
    have hj:j < kvs.length:=by unfold kIx at z; exact (List.findIdx?_eq_some_iff_getElem.mp z).1
    have hx:j < ys.size:=by simp only [Array.length_toList] at hl; omega
    obtain ⟨p,q',e1,e2,⟨_,_,e3⟩,_⟩:=ents_get en D.dk j ys[j] (by rw [Array.getElem?_toList,Array.getElem?_eq_getElem hx])
    refine wpAny_bind (wpAny_dictEntries (s:={ s with toks:=tk }) ho hd ?_)
    rw [Array.getElem?_eq_getElem hx]
    exact wpAny_bind (wpAny_rule (wpAny_pure (wpAny_pure ⟨_,rfl,q'.2,H,I.tok tk,e3,h1 j q' z e2⟩)))
noncomputable def sSdefD (w:World) (i:Nat) (fk fv:Ga->R D):Ga->RS:=open Classical in λ Γ=>match Γ[i]? with
  | some (.dic w' kvs)=>if w'=w then .of (fk Γ) Γ λ k=>.of (fv Γ) Γ λ d=>if hk 8 k=true/\kvs.length < 1000000 then .nx (Γ.set i (.dic w (defK k d kvs))) else .no else .no
  | _=>.no
theorem sSdefD_at {w:World} {i:Nat} {fk fv:Ga->R D} {Γ:Ga} {kvs:List (D×D)} (h:Γ[i]?=some (.dic w kvs)) :
    sSdefD w i fk fv Γ=.of (fk Γ) Γ λ k=>.of (fv Γ) Γ λ d=>if hk 8 k=true/\kvs.length < 1000000 then .nx (Γ.set i (.dic w (defK k d kvs))) else .no:=by
  unfold sSdefD
  rw [h]
  exact if_pos rfl
theorem set_self {Γ:Ga} {i:Nat} {y:Sl} (h:Γ[i]?=some y):Γ.set i y=Γ:=by
  apply List.ext_getElem?
  intro j
  rw [List.getElem?_set]
  split
  · rename_i e
    subst e
    split
    · exact h.symm
    · rename_i q; rw [List.getElem?_eq_none (by omega)] at h; cases h
  · rfl
theorem x_sdefD (i:Nat) (hu:X.A.units + 150 < cLine) (hk_:EvD X W b fb) (he:EvD X W e f) (hN:X.N[i]?=some x:=by rfl) (hv:Vis X.env.scope x:=by first | exact Or.inl rfl | exact Or.inr (Or.inl rfl) | exact Or.inr (Or.inr rfl)) (hd:(x == ("__debug__":Str))=false:=by decide)
    (hcd:(x == ("__classdict__":Str))=false:=by decide) (hs:starEach [b,e] X.env=(false,eval b X.env)::starEach [e] X.env:=by rfl) (hs2:starEach [e] X.env=[(false,eval e X.env)]:=by rfl) (hline:(apos.endLine == cpos.line)=true:=by rfl)
    (hsw:swapsWith (.Call (.Attribute (.Name x pos') "setdefault" apos) [b,e] [] cpos) none pos.line X.env=pure false:=by rfl)
    (hbase:attributeBase (.Name x pos') "setdefault" X.env (eval (.Name x pos') X.env)=eval (.Name x pos') X.env:=by rfl)
    (hfew:((backTo cpos (starEach [b,e] X.env)).all (λ x=>!x.1)&&(backToKw cpos (keywordEach [] X.env)).all (λ x=>x.1.isSome)
     &&decide ([b,e].length + ([]:List Keyword).length + (if ([]:List Keyword).isEmpty then 0 else 1) < 30))=true:=by rfl)
    (hpl:(backTo cpos (starEach [e] X.env)).any (·.1)=false:=by rfl) :
    ExD X W (.Expr (.Call (.Attribute (.Name x pos') "setdefault" apos) [b,e] [] cpos) pos) (sSdefD X.w i fb f):=by
  obtain ⟨t,p,q⟩:=he
  obtain ⟨t2,pi,q2⟩:=hk_
  refine ⟨_,ps_expr (pe_bmD PySem.F.plainAttrs_dict PySem.F.slot_dict_setdefault PySem.F.type_dict_setdefault (mt_sdef hu) (pe_var hN hv hd hcd) (pa_cons pi (pa_cons p pa_nil hs2) hs) hbase hfew hline hs hpl) hsw,λ H₀ G₀ Γ σ H G R D w=>?_⟩
  unfold sSdefD at w
  split at w
  · rename_i w' kvs e1
    split at w
    · rename_i e0
      subst e0
      obtain ⟨a,es,s1,s2',_⟩:=R.all i _ e1
      refine ⟨_,s1,⟨a,kvs,es,rfl,s2'⟩,?_⟩
      refine q2 _ _ _ _ _ _ R _ (wS R w λ k w u H1 G1 E1 d1=>?_)
      refine q _ _ _ _ _ _ (R.after E1) _ (wS (R.after E1) w λ d w v H2 G2 E2 d2=>?_)
      split at w
      · rename_i hz
        have R2:=(R.after E1).after E2
        obtain ⟨a',es',s1',s2,s3,s4,s5⟩:=R2.all i _ e1
        rw [s1] at s1'; cases s1'
        refine ⟨G2,a,kvs,es',k,u,d,v,rfl,rfl,dic_of E2.gh s2 s5,d1.up E2.gg,hz.1,hz.2,λ j q' z _=>?_,λ z=>?_⟩
        · have e5:defK k d kvs=kvs:=by unfold defK; rw [z]; rfl
          rw [e5,set_self e1] at w
          exact w _ _ _ R2
        · have e5:defK k d kvs=kvs++[(k,d)]:=by unfold defK; rw [z]; rfl
          rw [e5] at w
          exact w _ _ _ (R2.mutD e1 s1 (denK_append (d1.up E2.gg) d2 s5))
      · exact w.elim
    · exact w.elim
  · exact w.elim
end
end Wy


namespace Wy
open PySem PySem.Spec PyProof.Rows L2 PySem.W
section
variable {X:Cx} {pins:List (Addr×Obj)} {σ:L2.St} {H G:Hp} {s:Shared} {A:Around} {E:Value->Shared->Prop} {d:Addr}
end
section
variable {prog:Program} {w:World} {A:Around} {E:Value->Shared->Prop} {s:Shared} {T:String} {r d:Addr} {n:Nat} {P:Nat->Value->Prop} {OK:Heap->Prop}
end
section
variable {X:Cx} {W:XP} {e:Expr} {fd:Ga->R (List (D×D))} {pos p2:Pos}
end
end Wy


namespace Wy
open PySem PySem.Spec PyProof.Rows L2
section
variable {X:Cx} {W:XP} {a b c e:Expr} {fa fb fc f:Ga->R D} {fm fm2:Ga->R (D×Ga)} {fd:Ga->R (List (D×D))} {pos pos' p2 apos cpos:Pos} {x:Str}
end
end Wy


namespace Wy
open PySem PySem.Spec PyProof.Rows L2
section
variable {X:Cx} {scope:Scope} {cl:List (Str×Addr)} {x x2 y:Str} {px px2 py pos spos tpos:Pos} {tk:Nat} {elt iter:Expr} {ifs:List Expr} {c:Ga->R Bool} {f:Ga->R D} {fl:Ga->R (List D)}
end
end Wy


namespace Wl
open PySem
structure Bis (Y Z:List Wd) (R:Nat->Nat->Prop):Prop where
  nam:∀ {a b},R a b->∀ x,x∈(wdAt Y a).1↔x∈(wdAt Z b).1
  forth:∀ {a b},R a b->∀ k,k < 3->∀ v∈rowAt Y a k,∃ u∈rowAt Z b k,R v u
  back:∀ {a b},R a b->∀ k,k < 3->∀ u∈rowAt Z b k,∃ v∈rowAt Y a k,R v u
theorem Bis.sat {Y Z:List Wd} {R:Nat->Nat->Prop} (B:Bis Y Z R):∀ (s:Say) {a b:Nat},okS s=true->R a b->sat Y s a=sat Z s b
  | .nm x,a,b,_,h=>by
    unfold Wl.sat
    exact decide_eq_decide.mpr (B.nam h x)
  | .neg s,a,b,ho,h=>by
    unfold Wl.sat
    rw [B.sat s ho h]
  | .two c s s',a,b,ho,h=>by
    simp only [okS,Bool.and_eq_true] at ho
    unfold Wl.sat
    rw [B.sat s ho.1 h,B.sat s' ho.2 h]
  | .way c k s,a,b,ho,h=>by
    simp only [okS,Bool.and_eq_true,decide_eq_true_iff] at ho
    unfold Wl.sat
    cases c with
    | true =>
      simp only [if_true]
      rw [Bool.eq_iff_iff,List.all_eq_true,List.all_eq_true]
      constructor
      · intro q u hu
        obtain ⟨v,hv,r⟩:=B.back h k ho.1 u hu
        rw [<- B.sat s ho.2 r]
        exact q v hv
      · intro q v hv
        obtain ⟨u,hu,r⟩:=B.forth h k ho.1 v hv
        rw [B.sat s ho.2 r]
        exact q u hu
    | false =>
      simp only [Bool.false_eq_true,if_false]
      rw [Bool.eq_iff_iff,List.any_eq_true,List.any_eq_true]
      constructor
      · rintro ⟨v,hv,q⟩
        obtain ⟨u,hu,r⟩:=B.forth h k ho.1 v hv
        exact ⟨u,hu,by rw [<- B.sat s ho.2 r]; exact q⟩
      · rintro ⟨u,hu,q⟩
        obtain ⟨v,hv,r⟩:=B.back h k ho.1 u hu
        exact ⟨v,hv,by rw [B.sat s ho.2 r]; exact q⟩
end Wl


namespace Wl
open PySem
end Wl


namespace Wl
section
variable {α:Type} [DecidableEq α]
def fp (l:List α):List Nat:=l.map λ a=>l.findIdx λ b=>decide (b=a)
theorem fp_len (l:List α):(fp l).length=l.length:=by simp [fp]
theorem fp_at {l:List α} {i:Nat} (h:i < l.length):(fp l).getD i 0=l.findIdx λ b=>decide (b=l[i]):=by
  unfold fp
  rw [List.getD_eq_getElem?_getD,List.getElem?_map,List.getElem?_eq_getElem h]
  rfl
theorem fp_le {l:List α} {i:Nat} (h:i < l.length):(fp l).getD i 0<=i:=by
  rw [fp_at h]
  exact Nat.le_of_not_lt λ z=>by
    have:=List.not_of_lt_findIdx z
    simp at this
theorem fp_lt {l:List α} {i:Nat} (h:i < l.length):(fp l).getD i 0 < l.length:=Nat.lt_of_le_of_lt (fp_le h) h
theorem fp_val {l:List α} {i:Nat} (h:i < l.length):l[(fp l).getD i 0]'(fp_lt h)=l[i]:=by
  have h1:=fp_lt h
  have e:=fp_at h
  have:=List.findIdx_getElem (xs:=l) (p:=λ b=>decide (b=l[i])) (w:=by rw [<- e]; exact h1)
  have q:=of_decide_eq_true this
  simp only [e]
  exact q
theorem fp_eq {l:List α} {i j:Nat} (hi:i < l.length) (hj:j < l.length):(fp l).getD i 0=(fp l).getD j 0↔l[i]=l[j]:=by
  constructor
  · intro e
    have a:=fp_val hi
    have b:=fp_val hj
    rw [<- a,<- b]
    congr 1
  · intro e
    rw [fp_at hi,fp_at hj,e]
end
structure Can (n:Nat) (s:List Nat):Prop where
  len:s.length=n
  le:∀ i,i < n->s.getD i 0<=i
  fix:∀ i,i < n->s.getD (s.getD i 0) 0=s.getD i 0
theorem fp_can {α:Type} [DecidableEq α] {l:List α} {n:Nat} (h:l.length=n):Can n (fp l) where
  len:=by rw [fp_len,h]
  le:=λ i hi=>fp_le (by omega)
  fix:=λ i hi=>by
    have h1:i < l.length:=by omega
    exact (fp_eq (fp_lt h1) h1).mpr (fp_val h1)
def Fin_ (n:Nat) (s t:List Nat):Prop:=∀ i j,i < n->j < n->s.getD i 0=s.getD j 0->t.getD i 0=t.getD j 0
theorem Can.least {n:Nat} {s:List Nat} (c:Can n s) {i j:Nat} (_:i < n) (hj:j < n) (e:s.getD i 0=s.getD j 0):s.getD i 0<=j:=by
  rw [e]; exact c.le j hj
theorem Can.eq {n:Nat} {s t:List Nat} (c:Can n s) (d:Can n t) (h1:Fin_ n s t) (h2:Fin_ n t s):s=t:=by
  apply List.ext_getElem
  · rw [c.len,d.len]
  · intro i hs ht
    have hi:i < n:=by rw [<- c.len]; exact hs
    have e1:s.getD i 0=s[i]:=by rw [List.getD_eq_getElem?_getD,List.getElem?_eq_getElem hs]; rfl
    have e2:t.getD i 0=t[i]:=by rw [List.getD_eq_getElem?_getD,List.getElem?_eq_getElem ht]; rfl
    rw [<- e1,<- e2]
    have a:=c.le i hi
    have b:=d.le i hi
    have p:=h1 (s.getD i 0) i (by omega) hi (c.fix i hi)
    have q:=h2 (t.getD i 0) i (by omega) hi (d.fix i hi)
    have x:=d.least (i:=i) (j:=s.getD i 0) hi (by omega) p.symm
    have y:=c.least (i:=i) (j:=t.getD i 0) hi (by omega) q.symm
    omega
def cnt (n:Nat) (s:List Nat):Nat:=(List.range n).countP λ i=>s.getD i 0 == i
theorem cnt_le (n:Nat) (s:List Nat):cnt n s<=n:=by
  have:=List.countP_le_length (p:=λ i=>s.getD i 0 == i) (l:=List.range n)
  rw [List.length_range] at this
  exact this
theorem countP_lt {l:List Nat} {p q:Nat->Bool} (h:∀ x∈l,p x=true->q x=true) {r:Nat} (hr:r∈l) (hp:p r=false) (hq:q r=true):l.countP p < l.countP q:=by
  induction l with
  | nil=>cases hr
  | cons a l ih =>
    rw [List.countP_cons,List.countP_cons]
    have hle:l.countP p<=l.countP q:=List.countP_mono_left λ x hx=>h x (List.mem_cons_of_mem _ hx)
    rcases List.mem_cons.mp hr with rfl | hr
    · simp [hp,hq]; omega
    · have:=ih (λ x hx=>h x (List.mem_cons_of_mem _ hx)) hr
      have ha:=h a List.mem_cons_self
      cases pa:p a with
      | false=>simp; omega
      | true=>rw [ha pa]; simp; omega
theorem cnt_lt {n:Nat} {s t:List Nat} (c:Can n s) (d:Can n t) (h:Fin_ n t s) (ne:t≠s):cnt n s < cnt n t:=by
  have hx:∃ i,i < n/\t.getD i 0≠s.getD i 0:=by
    apply Classical.byContradiction
    intro z
    apply ne
    refine d.eq c h λ i j hi hj e=>?_
    have a:t.getD i 0=s.getD i 0:=Classical.byContradiction λ q=>z ⟨i,hi,q⟩
    have b:t.getD j 0=s.getD j 0:=Classical.byContradiction λ q=>z ⟨j,hj,q⟩
    rw [a,b,e]
  obtain ⟨i,hi,hne⟩:=hx
  have lt:=d.le i hi
  have ls:=c.le i hi
  have e:=h (t.getD i 0) i (by omega) hi (d.fix i hi)
  refine countP_lt (r:=t.getD i 0) (λ x hx hp=>?_) (List.mem_range.mpr (by omega)) ?_ ?_
  · have hxn:=List.mem_range.mp hx
    have px:s.getD x 0=x:=eq_of_beq hp
    have f:=h (t.getD x 0) x (by have:=d.le x hxn; omega) hxn (d.fix x hxn)
    have g:=c.least (i:=x) (j:=t.getD x 0) hxn (by have:=d.le x hxn; omega) f.symm
    have:=d.le x hxn
    exact beq_iff_eq.mpr (by omega)
  · rw [e]
    have g:=c.least (i:=i) (j:=t.getD i 0) hi (by omega) e.symm
    cases z:s.getD i 0 == t.getD i 0 with
    | false=>rfl
    | true=>exact absurd (eq_of_beq z).symm hne
  · exact beq_iff_eq.mpr (d.fix i hi)
def mxN (l:List Nat):Nat:=l.foldr max 0
theorem le_mx:∀ {l:List Nat} {x:Nat},x∈l->x<=mxN l
  | a::l,x,h=>by
    rcases List.mem_cons.mp h with rfl | h
    · exact Nat.le_max_left _ _
    · exact Nat.le_trans (le_mx h) (Nat.le_max_right _ _)
def srtN (l:List Nat):List Nat:=(List.range (mxN l + 1)).filter λ x=>decide (x∈l)
theorem mem_srtN {l:List Nat} {x:Nat}:x∈srtN l↔x∈l:=by
  unfold srtN
  rw [List.mem_filter,List.mem_range]
  constructor
  · rintro ⟨_,h⟩; exact of_decide_eq_true h
  · intro h; exact ⟨Nat.lt_succ_of_le (le_mx h),decide_eq_true h⟩
theorem srtN_rise (l:List Nat):(srtN l).Pairwise (· < ·):=List.Pairwise.filter _ List.pairwise_lt_range
theorem rise_ext:∀ {a b:List Nat},a.Pairwise (· < ·)->b.Pairwise (· < ·)->(∀ x,x∈a↔x∈b)->a=b
  | [],[],_,_,_=>rfl
  | [],y::b,_,_,h=>absurd ((h y).mpr List.mem_cons_self) (by simp)
  | x::a,[],_,_,h=>absurd ((h x).mp List.mem_cons_self) (by simp)
  | x::a,y::b,ha,hb,h=>by
    rw [List.pairwise_cons] at ha hb
    have e:x=y:=by
      rcases List.mem_cons.mp ((h x).mp List.mem_cons_self) with e | e
      · exact e
      · rcases List.mem_cons.mp ((h y).mpr List.mem_cons_self) with e' | e'
        · exact e'.symm
        · have:=ha.1 y e'; have:=hb.1 x e; omega
    subst e
    rw [rise_ext ha.2 hb.2 λ z=>?_]
    have hz:=h z
    constructor
    · intro m
      rcases List.mem_cons.mp (hz.mp (List.mem_cons_of_mem _ m)) with rfl | q
      · exact absurd (ha.1 z m) (Nat.lt_irrefl _)
      · exact q
    · intro m
      rcases List.mem_cons.mp (hz.mpr (List.mem_cons_of_mem _ m)) with rfl | q
      · exact absurd (hb.1 z m) (Nat.lt_irrefl _)
      · exact q
theorem srtN_eq {a b:List Nat}:srtN a=srtN b↔∀ x,x∈a↔x∈b:=by
  constructor
  · intro e x
    rw [<- mem_srtN,e,mem_srtN]
  · intro h
    exact rise_ext (srtN_rise a) (srtN_rise b) λ x=>by rw [mem_srtN,mem_srtN]; exact h x
theorem srtN_self {a:List Nat} (h:a.Pairwise (· < ·)):srtN a=a:=rise_ext (srtN_rise a) h λ _=>mem_srtN
section
variable {β:Type} [DecidableEq β] (N:List β) (ch:Nat->Nat->List Nat)
def dst (s:List Nat) (i k:Nat):List Nat:=srtN ((ch i k).map λ v=>s.getD v 0)
def mkP (s:List Nat) (i:Nat):Nat×List (List Nat):=(s.getD i 0,(List.range 3).map (dst ch s i))
def stP:Nat->List Nat
  | 0=>fp N
  | m + 1=>fp ((List.range N.length).map (mkP ch (stP m)))
variable {N ch}
theorem dst_eq {s:List Nat} {i j:Nat}:(List.range 3).map (dst ch s i)=(List.range 3).map (dst ch s j)↔∀ k,k < 3->dst ch s i k=dst ch s j k:=by
  constructor
  · intro e k hk
    have:=congrArg (λ l=>l[k]?) e
    simpa [List.getElem?_range,hk] using this
  · intro h
    exact List.map_congr_left λ k hk=>h k (List.mem_range.mp hk)
theorem dst_iff {s:List Nat} {i j k:Nat}:dst ch s i k=dst ch s j k↔(∀ v∈ch i k,∃ u∈ch j k,s.getD v 0=s.getD u 0)/\∀ u∈ch j k,∃ v∈ch i k,s.getD v 0=s.getD u 0:=by
  unfold dst
  rw [srtN_eq]
  simp only [List.mem_map]
  constructor
  · intro h
    exact ⟨λ v hv=>let ⟨u,hu,e⟩:=(h _).mp ⟨v,hv,rfl⟩; ⟨u,hu,e.symm⟩,λ u hu=>(h _).mpr ⟨u,hu,rfl⟩⟩
  · rintro ⟨a,b⟩ x
    constructor
    · rintro ⟨v,hv,rfl⟩
      obtain ⟨u,hu,e⟩:=a v hv
      exact ⟨u,hu,e.symm⟩
    · rintro ⟨u,hu,rfl⟩
      exact b u hu
theorem stP_can:∀ m,Can N.length (stP N ch m)
  | 0=>fp_can rfl
  | m + 1=>fp_can (by simp)
theorem range_at {α:Type} {f:Nat->α} {n i:Nat} (h:i < ((List.range n).map f).length):((List.range n).map f)[i]=f i:=by simp
theorem stP_succ {m i j:Nat} (hi:i < N.length) (hj:j < N.length):(stP N ch (m + 1)).getD i 0=(stP N ch (m + 1)).getD j 0↔(stP N ch m).getD i 0=(stP N ch m).getD j 0/\∀ k,k < 3->dst ch (stP N ch m) i k=dst ch (stP N ch m) j k:=by
  conv=>lhs; unfold stP
  rw [fp_eq (by simpa using hi) (by simpa using hj),range_at,range_at]
  unfold mkP
  rw [Prod.mk.injEq,dst_eq]
theorem stP_fin (m:Nat):Fin_ N.length (stP N ch (m + 1)) (stP N ch m):=λ _ _ hi hj e=>((stP_succ hi hj).mp e).1
theorem stP_fin0:∀ m,Fin_ N.length (stP N ch m) (stP N ch 0)
  | 0=>λ _ _ _ _ e=>e
  | m + 1=>λ i j hi hj e=>stP_fin0 m i j hi hj (stP_fin m i j hi hj e)
variable (hch:∀ i k,i < N.length->∀ v∈ch i k,v < N.length)
include hch
omit hch in
theorem stP_stay {m:Nat} (h:stP N ch (m + 1)=stP N ch m):∀ d,stP N ch (m + d)=stP N ch m
  | 0=>rfl
  | d + 1=>by
    have ih:=stP_stay h d
    show stP N ch ((m + d) + 1)=stP N ch m
    rw [<- h]
    conv=>lhs; unfold stP
    conv=>rhs; unfold stP
    rw [ih]
omit hch in
theorem stP_cnt (m:Nat) (h:∀ d,d < m->stP N ch (d + 1)≠stP N ch d) (hn:0 < N.length):m < cnt N.length (stP N ch m):=by
  induction m with
  | zero =>
    unfold cnt
    apply List.countP_pos_iff.mpr
    refine ⟨0,List.mem_range.mpr hn,beq_iff_eq.mpr ?_⟩
    have:=(stP_can (N:=N) (ch:=ch) 0).le 0 hn
    omega
  | succ m ih =>
    have:=ih λ d hd=>h d (Nat.lt_succ_of_lt hd)
    have:=cnt_lt (stP_can m) (stP_can (m + 1)) (stP_fin m) (h m (Nat.lt_succ_self m))
    omega
omit hch in
theorem stP_rest (hn:0 < N.length):∃ m,m < N.length/\stP N ch (m + 1)=stP N ch m/\∀ d,d < m->stP N ch (d + 1)≠stP N ch d:=by
  apply Classical.byContradiction
  intro z
  have all:∀ m,m<=N.length->∀ d,d < m->stP N ch (d + 1)≠stP N ch d:=by
    intro m
    induction m with
    | zero=>intro _ d hd; omega
    | succ m ih =>
      intro hm d hd
      by_cases q:d < m
      · exact ih (by omega) d q
      · have:d=m:=by omega
        subst this
        exact λ e=>z ⟨d,by omega,e,ih (by omega)⟩
  have a:=stP_cnt N.length (all _ (Nat.le_refl _)) hn
  have b:=cnt_le N.length (stP N ch N.length)
  omega
end
end Wl


namespace Wl
section
variable (nx:Nat->List Nat)
variable {nx}
theorem nodup_lt_len:∀ (n:Nat) (F:List Nat),F.Nodup->(∀ v∈F,v < n)->F.length<=n
  | 0,[],_,_=>Nat.le_refl _
  | 0,x::F,_,h=>absurd (h x List.mem_cons_self) (Nat.not_lt_zero _)
  | n + 1,F,hn,h=>by
    by_cases q:n∈F
    · have:=nodup_lt_len n (F.erase n) (hn.erase n) λ v hv=>by
        have a:=(hn.mem_erase_iff).mp hv
        have b:=h v a.2
        omega
      rw [List.length_erase_of_mem q] at this
      omega
    · exact Nat.le_succ_of_le (nodup_lt_len n F hn λ v hv=>by
        have b:=h v hv
        have:v≠n:=λ e=>q (e ▸ hv)
        omega)
section
variable {rows:Nat->List (List Nat)} (hnx:∀ k v,v∈nx k↔∃ r∈rows k,v∈r)
end
end
end Wl


namespace Wy
open PySem PySem.Spec PyProof.Rows L2
section
variable {w:World} {bs:List Bool} {N:List Str} {Γ:Ga} {fa fb fk fv f:Ga->R D} {fd:Ga->R (List (D×D))} {fl:Ga->R (List D)} {fs:Ga->R (Bool×List D)} {kvs:List (D×D)} {sl:Sl} {n:Nat} {b:Bool} {d:D} {ds:List D} {fm fm2:Ga->R (D×Ga)}
@[simp] theorem callK_eq (S:Ga->RS):callK w bs N S ds=(S (beginK w bs N ds)).fin:=by unfold callK; cases S (beginK w bs N ds) <;> rfl
@[simp] theorem beginK_eq:beginK w bs N ds=begK w bs ds++List.replicate (N.length - ds.length) Sl.un:=nr rfl
@[simp] theorem begK_t:begK w (true::bs) (d::ds)=.vdi w (decK d)::begK w bs ds:=nr rfl
@[simp] theorem begK_f:begK w (false::bs) (d::ds)=.val d::begK w bs ds:=nr rfl
@[simp] theorem begK_n:begK w [] []=[]:=nr rfl
@[simp] theorem dV_zd:dV w 0 (.dic w kvs::Γ)=.ok kvs:=dV_dic rfl
@[simp] theorem dV_succ:dV w (n + 1) (sl::Γ)=dV w n Γ:=by simp [dV]
@[simp] theorem eInD_eq:eInD b fk fd Γ=(fk Γ).bind λ k=>(fd Γ).bind λ kvs=>inK b k kvs:=nr rfl
@[simp] theorem eIxD_eq:eIxD fd fk Γ=(fd Γ).bind λ kvs=>(fk Γ).bind λ k=>getK k kvs:=nr rfl
@[simp] theorem inK_int {i:Int}:inK b (.int i) kvs=.ok (.bl (b != (kIx (.int i) kvs).isSome)):=if_pos (by unfold hk; rfl)
@[simp] theorem getK_int {i:Int}:getK (.int i) kvs=.ofO ((kIx (.int i) kvs).bind λ j=>kvs[j]?.map (·.2)):=if_pos (by unfold hk; rfl)
@[simp] theorem aDic_eq:aDic fd fl Γ=(fd Γ).bind λ kvs=>(fl Γ).bind λ r=>.ok (encK kvs::r):=nr rfl
@[simp] theorem decK_enc:decK (encK kvs)=kvs:=decK_encK kvs
@[simp] theorem sSetD_eq:sSetD w n fd Γ=.of (fd Γ) Γ λ kvs=>.nx (Γ.set n (.dic w kvs)):=nr rfl
@[simp] theorem oSortSet_eq:oSortSet fs Γ=(fs Γ).bind λ p=>.ofO (sortSetD p.2):=nr rfl
@[simp] theorem oListRng_eq:oListRng f Γ=(f Γ).bind λ d=>.ofO (rngD d):=nr rfl
@[simp] theorem oDnil_eq:oDnil Γ=.ok []:=nr rfl
end
abbrev iN:Nat->D:=λ n=>D.int (n:Int)
end Wy
namespace Wl
open PySem Wy
def toI (l:List Nat):List Int:=l.map λ (n:Nat)=>(n:Int)
theorem toI_map (l:List Nat):l.map iN=(toI l).map D.int:=by unfold toI; rw [List.map_map]; rfl
theorem toI_rise {l:List Nat} (h:l.Pairwise (· < ·)):(toI l).Pairwise (·<=·):=by
  unfold toI
  rw [List.pairwise_map]
  exact h.imp λ hab=>by omega
theorem toI_nodup {l:List Nat} (h:l.Nodup):(toI l).Nodup:=by
  unfold toI List.Nodup
  rw [List.pairwise_map]
  exact h.imp λ hab e=>hab (by omega)
theorem rise_nodup {l:List Nat} (h:l.Pairwise (· < ·)):l.Nodup:=h.imp λ hab e=>by omega
theorem mem_toI {l:List Nat} {k:Int}:k∈toI l↔∃ n∈l,(n:Int)=k:=by unfold toI; simp
theorem srt_nat {l m:List Nat} (hm:m.Pairwise (· < ·)) (h:∀ x,x∈m↔x∈l):srt (ded (toI l))=toI m:=by
  have p:(toI m).Perm (ded (toI l)):=ded_perm (toI_nodup (rise_nodup hm)) λ k=>by
    rw [mem_toI,mem_toI]
    exact ⟨λ ⟨n,h1,h2⟩=>⟨n,(h n).mp h1,h2⟩,λ ⟨n,h1,h2⟩=>⟨n,(h n).mpr h1,h2⟩⟩
  exact (srt_uniq p (toI_rise hm)).symm
theorem sortSet_nat (l:List Nat) (h:l.length < 64):sortSetD (l.map iN)=some ((srtN l).map iN):=by
  unfold sortSetD
  rw [toI_map,asIs_map]
  dsimp only
  rw [if_pos (by unfold toI; simpa using h),srt_nat (srtN_rise l) λ x=>mem_srtN,toI_map]
structure Pl (kvs:List (D×D)) (pl:Nat->Option Nat):Prop where
  at_:∀ v:Nat,(kIx (.int (v:Int)) kvs).isSome=(pl v).isSome/\((kIx (.int (v:Int)) kvs).bind λ j=>kvs[j]?.map (·.2))=(pl v).map iN
def movW (Y:List Wd) (pl:Nat->Option Nat) (n:Nat):Wd:=((wdAt Y n).1,(wdAt Y n).2.map λ r=>srtN (r.filterMap pl))
def movY (Y:List Wd) (pl:Nat->Option Nat) (kept:List Nat):List Wd:=kept.map (movW Y pl)
end Wl


namespace Lw
open PySem PySem.Spec PyProof.Rows L2 Wy Wl
theorem abc_le:(["a","b","zz"]:List Str).Pairwise leT:=by
  refine List.Pairwise.cons ?_ (List.Pairwise.cons ?_ (List.Pairwise.cons ?_ List.Pairwise.nil))
  · intro b hb
    simp only [List.mem_cons,List.not_mem_nil,or_false] at hb
    rcases hb with rfl | rfl <;> (unfold leT; decide)
  · intro b hb
    simp only [List.mem_cons,List.not_mem_nil,or_false] at hb
    rcases hb with rfl
    unfold leT; decide
  · intro b hb; cases hb
theorem abc_nd:(["a","b","zz"]:List Str).Nodup:=by decide
theorem sort_names {ns:List Str} (h:ns.Sublist ["a","b","zz"]):sortSetD (ns.map D.str)=some (ns.map D.str):=by
  have hl:ns.length < 64:=by have:=h.length_le; simp at this; omega
  cases ns with
  | nil=>exact sortSet_nat [] (by decide)
  | cons x r =>
    have e1:asIs ((x::r).map D.str)=none:=rfl
    have e2:asSs ((x::r).map D.str)=some (x::r):=asSs_map _
    unfold sortSetD
    rw [e1]
    dsimp only
    rw [e2]
    dsimp only
    rw [if_pos hl,<- srtT_uniq (ded_perm (h.nodup abc_nd) λ k=>Iff.rfl) (abc_le.sublist h)]
theorem ne_self {l:List D} (h:depDL l<=90):neD (.lst l) (.lst l)=some (.bl false):=by
  rw [neD_of,eqDD_refl]
  · rfl
  · unfold depD; omega
theorem isy_row {Y:List Wd} (hl:Y.length < 64) {r:List Nat} (hr:r.Pairwise (· < ·)) (ht:∀ v∈r,v < Y.length) (x1:Sl):L_q1_2 [.val (dYd Y),x1,.val (dRow r)]=.nx [.val (dYd Y),x1,.val (dRow r)]:=by
  have hrl:r.length < 64:=by have:=rise_len hr λ v hv=>⟨Nat.zero_le v,ht v hv⟩; omega
  have e1:sortSetD (r.map iN)=some (r.map iN):=by rw [sortSet_nat r hrl,srtN_self hr]
  have dp:depDL (r.map iN)<=90:=Nat.le_trans (depDL_le (n:=0) λ d hd=>by
    obtain ⟨v,_,rfl⟩:=List.mem_map.mp hd
    simp) (by omega)
  have e2:=ne_self dp
  have c:eS allS (sO (cpR (iT (eV 2)) cTrue (eAnd (eIsi gInt (eV 0)) (eAnd (eNot (eIsi gBool (eV 0))) (e3 (int2 λ i j=>some (.bl (decide (i<=j)))) ltD (eC (.int 0)) (eV 0) (eB lenD (aCons (eV 2) aNil))))))) [.val (dYd Y),x1,.val (dRow r)]=.ok (.bl true):=by
    rw [all_cp (ds:=r.map iN) (p:=λ _=>true)]
    · simp
    · simp [dRow]
    · simp; omega
    · intro d hd
      obtain ⟨v,hv,rfl⟩:=List.mem_map.mp hd
      have:=ht v hv
      have h2:(v:Int) < (Y.length:Int):=by omega
      simp [gInt,gBool,dYd,h2]
  have g1:gTuple (tyN (dRow r))=true:=rfl
  have s2:sV 2 [.val (dYd Y),x1,.val (dRow r)]=.ok (true,r.map iN):=rfl
  simp [-cpR_eq,-eS_eq,-sV_succ,L_q1_2,c,g1,s2,e1,e2]
theorem isy_world {Y:List Wd} (hY:YOk Y) (hl:Y.length < 64) {w:Wd} (hw:w∈Y) (x2:Sl):∃ y2,L_q1_1 [.val (dYd Y),.val (dWd w),x2]=.nx [.val (dYd Y),.val (dWd w),y2]:=by
  obtain ⟨Γ',h1,y2,rfl⟩:=turns_keep (g:=gName' 2) (T:=L_q1_2) (λ Γ=>∃ y2,Γ=[.val (dYd Y),.val (dWd w),y2]) (w.2.map dRow) [.val (dYd Y),.val (dWd w),x2] (by
    rintro d Γ hd ⟨y2,rfl⟩
    obtain ⟨r,hr,rfl⟩:=List.mem_map.mp hd
    exact ⟨_,_,rfl,.inl (isy_row hl (hY.rise w hw r hr) (hY.there w hw r hr) _),_,rfl⟩) ⟨_,rfl⟩
  refine ⟨y2,?_⟩
  have i0:ixD (dWd w) (.int 0)=some (dNames w.1):=rfl
  have i1:ixD (dWd w) (.int 1)=some (dWays w.2):=rfl
  have e1:=sort_names (hY.names w hw)
  have dp:depDL (w.1.map D.str)<=90:=Nat.le_trans (depDL_le (n:=0) λ d hd=>by
    obtain ⟨v,_,rfl⟩:=List.mem_map.mp hd
    simp) (by omega)
  have e2:=ne_self dp
  have h3:(w.2.length:Int)=3:=by have:=hY.three w hw; omega
  have g1:gTuple (tyN (dWd w))=true:=rfl
  have g2:gTuple (tyN (dNames w.1))=true:=rfl
  have g3:gTuple (tyN (dWays w.2))=true:=rfl
  have l1:lenD [dWd w]=some (.int 2):=rfl
  have l2:lenD [dWays w.2]=some (.int 3):=by rw [show dWays w.2=.tup (w.2.map dRow) from rfl,lenD_tup]; simp [h3]
  have s1:seqOf (dNames w.1)=some (true,w.1.map D.str):=rfl
  have a1:asT (dWays w.2)=some (w.2.map dRow):=rfl
  simp [L_q1_1,i0,i1,g1,g2,g3,l1,l2,s1,e1,e2,a1,h1]
theorem m_isyard {Y:List Wd} (hY:YOk Y) (hl:Y.length < 64):M_q1 [dYd Y]=.ok (.bl true):=by
  obtain ⟨Γ',h1,x1,x2,rfl⟩:=turns_keep (g:=gName' 1) (T:=L_q1_1) (λ Γ=>∃ x1 x2,Γ=[.val (dYd Y),x1,x2]) (Y.map dWd) [.val (dYd Y),.un,.un] (by
    rintro d Γ hd ⟨x1,x2,rfl⟩
    obtain ⟨w,hw,rfl⟩:=List.mem_map.mp hd
    obtain ⟨y2,e⟩:=isy_world hY hl hw x2
    exact ⟨_,_,rfl,.inl e,_,_,rfl⟩) ⟨_,_,rfl⟩
  have hp:=hY.pos
  have hne:¬ (Y.length:Int)=0:=by omega
  have hne':¬ Y=[]:=λ z=>by rw [z] at hp; simp at hp
  have g1:gTuple (tyN (dYd Y))=true:=rfl
  have l1:lenD [dYd Y]=some (.int Y.length):=by rw [show dYd Y=.tup (Y.map dWd) from rfl,lenD_tup]; simp
  have a1:asT (dYd Y)=some (Y.map dWd):=rfl
  simp [M_q1,B_q1,begin_,g1,l1,a1,hne,hne',h1]
end Lw


namespace Pg
open PySem PySem.Spec PyProof.Rows L2 Wy Wl Lw
end Pg


namespace Wl
open PySem PySem.Spec PyProof.Rows L2 Wy
end Wl
namespace Pg
open PySem PySem.Spec PyProof.Rows L2 Wy Wl Lw
end Pg

namespace Pg
open PySem PySem.Spec PyProof.Rows L2 Wy Wl Lw
end Pg


namespace Pg
open PySem PySem.Spec PyProof.Rows L2 Wy Wl Lw
end Pg


namespace Pg
open PySem PySem.Spec PyProof.Rows L2 Wy Wl Lw
section
variable {p:Say->Prop} {T:List D->R D} {val:Say->D} {a:Addr} {φ:Hp->Prop} {d0:D}
end
end Pg


namespace Pg
open PySem PySem.Spec PyProof.Rows L2 Wy Wl Lw
abbrev N_q13:List Str:=["world","kind","row"]
noncomputable def B_q13:Ga->RS:=(sRet (eO (cpR (iT (e2 ixD (e2 ixD (eV 0) (eC (.int 1))) (eV 1))) cTrue (e2 ixD (eV 4) (eV 0)))))
noncomputable def M_q13:List D->R D:=λ ds=>callR N_q13 (B_q13) ds
end Pg


namespace Pg
open PySem PySem.Spec PyProof.Rows L2 Wy Wl Lw
theorem cp_of {α:Type} {it:Ga->R (List D)} {f:Ga->R D} {Γ:Ga} {l:List α} {g h:α->D} (h1:it Γ=.ok (l.map g)) (h2:l.length < 16000000) (h3:∀ a∈l,f (.val (g a)::.un::Γ)=.ok (h a)):cpR it cTrue f Γ=.ok (l.map h):=by
  have key:∀ m:List α,(∀ a∈m,f (.val (g a)::.un::Γ)=.ok (h a))->compR cTrue f Γ (m.map g)=.ok (m.map h):=by
    intro m
    induction m with
    | nil=>intro _; rfl
    | cons a m ih =>
      intro hm
      have e:=hm a List.mem_cons_self
      have e2:=ih λ b hb=>hm b (List.mem_cons_of_mem _ hb)
      rw [List.map_cons,compR]
      simp [cTrue,e,e2]
  rw [cpR_eq,h1,R.bind_ok,if_pos (by simpa using h2),key l h3]
theorem cp2_of {α:Type} {it:Ga->R (List D)} {f:Ga->R D} {Γ:Ga} {l:List α} {g1 g2 h:α->D} (h1:it Γ=.ok (l.map λ a=>D.tup [g1 a,g2 a])) (h2:l.length < 16000000) (h3:∀ a∈l,f (.val (g1 a)::.val (g2 a)::.un::Γ)=.ok (h a)):cpR2 it cTrue f Γ=.ok (l.map h):=by
  have key:∀ m:List α,(∀ a∈m,f (.val (g1 a)::.val (g2 a)::.un::Γ)=.ok (h a))->compR2 cTrue f Γ (m.map λ a=>D.tup [g1 a,g2 a])=.ok (m.map h):=by
    intro m
    induction m with
    | nil=>intro _; rfl
    | cons a m ih =>
      intro hm
      have e:=hm a List.mem_cons_self
      have e2:=ih λ b hb=>hm b (List.mem_cons_of_mem _ hb)
      rw [List.map_cons,compR2]
      simp [cTrue,Wy.pairD,e,e2]
  show (it Γ).bind _=_
  rw [h1,R.bind_ok,if_pos (by simpa using h2),key l h3]
theorem rising_len:∀ (r:List Nat) (a n:Nat),r.Pairwise (· < ·)->(∀ v∈r,a<=v/\v < n)->r.length + a<=n∨r=[]
  | [],a,n,_,_=>.inr rfl
  | x::r,a,n,hp,hv=>by
    obtain ⟨h1,h2⟩:=List.pairwise_cons.mp hp
    have hx:=hv x List.mem_cons_self
    rcases rising_len r (x + 1) n h2 (λ v hm=>⟨h1 v hm,(hv v (List.mem_cons_of_mem _ hm)).2⟩) with h | h
    · left; rw [List.length_cons]; omega
    · left; rw [h]; simp; omega
theorem row_len {Y:List Wd} (hY:YOk Y) {w k:Nat} (hw:w < Y.length):(rowAt Y w k).length<=Y.length:=by
  have hr:(rowAt Y w k).Pairwise (· < ·):=by
    unfold rowAt
    rw [List.getD_eq_getElem?_getD]
    cases e:(wdAt Y w).2[k]? with
    | none=>exact .nil
    | some r=>exact hY.rise _ (wdAt_mem hw) r (List.mem_of_getElem? e)
  rcases rising_len _ 0 Y.length hr (λ v hv=>⟨Nat.zero_le _,rowAt_there hY hw v hv⟩) with h | h
  · omega
  · rw [h]; simp
section
variable {Y:List Wd} (hY:YOk Y) (h5:Y.length<=100000)
include hY h5
end
end Pg


namespace Pg
open PySem PySem.Spec PyProof.Rows L2 Wy Wl Lw
abbrev N_q8:List Str:=["row","places"]
noncomputable def B_q8 (ww:World):Ga->RS:=(sRet (eS tupS (sO (oSortSet (sO (cpR (iT (eV 0)) (tB (eInD false (eV 0) (dV ww 3))) (eIxD (dV ww 3) (eV 0))))))))
noncomputable def M_q8:List D->R D:=λ ds=>parW λ ww=>callK ww [false,true] N_q8 (B_q8 ww) ds
abbrev N_q3:List Str:=["world","places"]
noncomputable def B_q3 (ww:World) (M_q8:List D->R D):Ga->RS:=(sRet (eTup (aCons (e2 ixD (eV 0) (eC (.int 0))) (aCons (eS tupS (sO (cpR (iT (e2 ixD (eV 0) (eC (.int 1)))) cTrue (eCall M_q8 (aCons (eV 0) (aDic (dV ww 3) aNil)))))) aNil))))
noncomputable def M_q3:List D->R D:=λ ds=>parW λ ww=>callK ww [false,true] N_q3 (B_q3 ww M_q8) ds
abbrev N_q15:List Str:=["yard","kept","places"]
noncomputable def B_q15 (ww:World) (M_q3:List D->R D):Ga->RS:=(sRet (eS tupS (sO (cpR (iL (eV 1)) cTrue (eCall M_q3 (aCons (e2 ixD (eV 2) (eV 0)) (aDic (dV ww 4) aNil)))))))
noncomputable def M_q15:List D->R D:=λ ds=>parW λ ww=>callK ww [false,false,true] N_q15 (B_q15 ww M_q3) ds
end Pg


namespace Pg
open PySem PySem.Spec PyProof.Rows L2 Wy Wl Lw
end Pg

set_option maxHeartbeats 4000000
namespace Wy
open PySem PySem.Spec PyProof.Rows L2
section
variable {X:Cx} {pins:List (Addr×Obj)} {σ:L2.St} {H G:Hp} {s:Shared} {a kS f:Addr} {kz:List Int} {vs:List Value} {e1 n:Nat} {A:Around} {P:PySem.Fin->Shared->Prop} {E:Value->Shared->Prop}
end
end Wy

set_option maxHeartbeats 4000000
namespace Wy
open PySem PySem.Spec PyProof.Rows L2
section
variable {X:Cx} {pins:List (Addr×Obj)} {σ:L2.St} {H G:Hp} {s:Shared} {a kS f:Addr} {kz:List Int} {vs:List Value} {e1 n:Nat} {A:Around} {P:PySem.Fin->Shared->Prop} {E:Value->Shared->Prop}
end
end Wy

namespace Wy
open PySem PySem.Spec PyProof.Rows L2
section
variable {X:Cx} {W:XP}
end
end Wy


namespace Pg
open PySem PySem.Spec PyProof.Rows L2 Wy Wl Lw
end Pg


namespace Pg
open PySem PySem.Spec PyProof.Rows L2 Wy Wl Lw
theorem parW_is {g:World->R D} {r:R D} (h:∀ w,g w=r):parW g=r:=parW_eq h (Classical.choice world_any)
theorem filterMap_of {pl:Nat->Option Nat} (r:List Nat):(r.filter λ v=>(pl v).isSome).map (λ v=>iN ((pl v).getD 0))=(r.filterMap pl).map iN:=by
  induction r with
  | nil=>rfl
  | cons a r ih =>
    cases e:pl a with
    | none=>simp [e,ih]
    | some b=>simp [e,ih]
theorem m_q8 {kvs:List (D×D)} {pl:Nat->Option Nat} (P:Pl kvs pl) (r:List Nat) (h:r.length < 64):M_q8 [dRow r,encK kvs]=.ok (dRow (srtN (r.filterMap pl))):=by
  refine parW_is λ w=>?_
  have c:∀ (Γ:Ga),Γ[1]?=some (.vdi w kvs)->compR (tB (eInD false (eV 0) (dV w 3))) (eIxD (dV w 3) (eV 0)) Γ (r.map iN)=.ok ((r.filterMap pl).map iN):=by
    intro Γ hΓ
    have d3:∀ d:D,dV w 3 (.val d::.un::Γ)=.ok kvs:=λ d=>dV_vdi (by simpa using hΓ)
    have:=compR_filter (c:=tB (eInD false (eV 0) (dV w 3))) (f:=eIxD (dV w 3) (eV 0)) (Γ:=Γ) (p:=λ d=>match d with | .int i=>(pl i.toNat).isSome | _=>false) (h:=λ d=>match d with | .int i=>iN ((pl i.toNat).getD 0) | _=>.non) (ds:=r.map iN) ?_ ?_
    · rw [this,<- filterMap_of,List.filter_map,List.map_map]
      rfl
    · intro d hd
      obtain ⟨v,hv,rfl⟩:=List.mem_map.mp hd
      have:=(P.at_ v).1
      simp [d3,this]
    · intro d hd hp
      obtain ⟨v,hv,rfl⟩:=List.mem_map.mp hd
      have:=(P.at_ v).2
      have hp':(pl v).isSome=true:=by simpa using hp
      obtain ⟨p,ep⟩:=Option.isSome_iff_exists.mp hp'
      simp [d3,this,ep]
  have c':=c [.val (dRow r),.vdi w kvs] rfl
  have hl:(r.filterMap pl).length < 64:=Nat.lt_of_le_of_lt (List.length_filterMap_le _ _) h
  have s:=sortSet_nat (r.filterMap pl) hl
  have hr:r.length < 16000000:=by omega
  simp [B_q8,dRow] at c' ⊢
  simp [dRow,c',s,hr]
theorem m_q3 {Y:List Wd} (hY:YOk Y) (hl:Y.length < 64) {kvs:List (D×D)} {pl:Nat->Option Nat} (P:Pl kvs pl) {n:Nat} (hn:n < Y.length):M_q3 [dWd (wdAt Y n),encK kvs]=.ok (dWd (movW Y pl n)):=by
  refine parW_is λ w=>?_
  have h3:=hY.three _ (wdAt_mem hn)
  have hrow:∀ r∈(wdAt Y n).2,r.length < 64:=λ r hr=>by
    have h1:=hY.rise _ (wdAt_mem hn) r hr
    have h2:=hY.there _ (wdAt_mem hn) r hr
    have:=rise_len h1 λ v hv=>⟨Nat.zero_le v,h2 v hv⟩
    omega
  have c:∀ (Γ:Ga),Γ[1]?=some (.vdi w kvs)->Γ[0]?=some (.val (dWd (wdAt Y n)))->cpR (iT (e2 ixD (eV 0) (eC (.int 1)))) cTrue (eCall M_q8 (aCons (eV 0) (aDic (dV w 3) aNil))) Γ=.ok ((movW Y pl n).2.map dRow):=by
    intro Γ h1 h0
    have d3:∀ d:D,dV w 3 (.val d::.un::Γ)=.ok kvs:=λ d=>dV_vdi (by simpa using h1)
    have v0:eV 0 Γ=.ok (dWd (wdAt Y n)):=by unfold eV; rw [h0]
    have:=cp_of (it:=iT (e2 ixD (eV 0) (eC (.int 1)))) (f:=eCall M_q8 (aCons (eV 0) (aDic (dV w 3) aNil))) (Γ:=Γ) (l:=(wdAt Y n).2) (g:=dRow) (h:=λ r=>dRow (srtN (r.filterMap pl))) ?_ (by omega) ?_
    · rw [this]; unfold movW; rw [List.map_map]; rfl
    · have i1:ixD (dWd (wdAt Y n)) (.int 1)=some (dWays (wdAt Y n).2):=rfl
      simp [v0,i1,dWays]
    · intro r hr
      have:=m_q8 P r (hrow r hr)
      simp [d3,this]
  have c':=c [.val (dWd (wdAt Y n)),.vdi w kvs] rfl rfl
  have e1:dWd (movW Y pl n)=.tup [dNames (wdAt Y n).1,.tup ((movW Y pl n).2.map dRow)]:=rfl
  rw [e1]
  simp [-cpR_eq,B_q3,c']
theorem m_q15 {Y:List Wd} (hY:YOk Y) (hl:Y.length < 64) {kvs:List (D×D)} {pl:Nat->Option Nat} (P:Pl kvs pl) {kept:List Nat} (hk:∀ n∈kept,n < Y.length) (hkl:kept.length < 16000000):M_q15 [dYd Y,.lst (kept.map iN),encK kvs]=.ok (dYd (movY Y pl kept)):=by
  refine parW_is λ w=>?_
  have c:∀ (Γ:Ga),Γ[2]?=some (.vdi w kvs)->Γ[0]?=some (.val (dYd Y))->Γ[1]?=some (.val (.lst (kept.map iN)))->cpR (iL (eV 1)) cTrue (eCall M_q3 (aCons (e2 ixD (eV 2) (eV 0)) (aDic (dV w 4) aNil))) Γ=.ok (kept.map λ n=>dWd (movW Y pl n)):=by
    intro Γ h2 h0 h1
    have d3:∀ d:D,dV w 4 (.val d::.un::Γ)=.ok kvs:=λ d=>dV_vdi (by simpa using h2)
    have v0:∀ d:D,eV 2 (.val d::.un::Γ)=.ok (dYd Y):=λ d=>by unfold eV; simp [h0]
    have v1:eV 1 Γ=.ok (.lst (kept.map iN)):=by unfold eV; rw [h1]
    refine cp_of (l:=kept) (g:=iN) (h:=λ n=>dWd (movW Y pl n)) ?_ hkl ?_
    · simp [v1]
    · intro n hn
      have hn':=hk n hn
      have:=m_q3 hY hl P hn'
      have hat:ixD (dYd Y) (.int (n:Int))=some (dWd (wdAt Y n)):=by
        rw [show dYd Y=.tup (Y.map dWd) from rfl,ixD_tup]
        exact atI_nat (by rw [List.getElem?_map,wdAt_get hn']; rfl)
      simp [d3,v0,hat,this]
  have c':=c [.val (dYd Y),.val (.lst (kept.map iN)),.vdi w kvs] rfl rfl rfl
  have e1:dYd (movY Y pl kept)=.tup (kept.map λ n=>dWd (movW Y pl n)):=by unfold dYd movY; rw [List.map_map]; rfl
  rw [e1]
  simp [-cpR_eq,B_q15,c']
def idxO (kept:List Nat) (v:Nat):Option Nat:=kept.findIdx? λ x=>decide (x=v)
theorem foldK_new:∀ (l acc:List (D×D)),((acc++l).map (·.1)).Nodup->(∀ p∈acc++l,hk 8 p.1=true)->l.foldl addK acc=acc++l
  | [],acc,_,_=>by simp
  | p::l,acc,hn,hh=>by
    have e:addK acc p=acc++[p]:=by
      unfold addK putK
      have:kIx p.1 acc=none:=by
        unfold kIx
        refine List.findIdx?_eq_none_iff.mpr λ q hq=>?_
        cases z:eqDD q.1 p.1 with
        | false=>rfl
        | true =>
          have:=hk_eq 8 8 _ _ (hh q (List.mem_append_left _ hq)) (hh p (by simp)) z
          rw [List.map_append,List.nodup_append] at hn
          exact absurd this (hn.2.2 q.1 (List.mem_map.mpr ⟨q,hq,rfl⟩) p.1 (by simp))
      rw [this]
    rw [List.foldl_cons,e,foldK_new l (acc++[p]) (by simpa using hn) (by simpa using hh)]
    simp
theorem mkK_new {l:List (D×D)} (hn:(l.map (·.1)).Nodup) (hh:∀ p∈l,hk 8 p.1=true):mkK l=l:=by
  unfold mkK
  rw [foldK_new l [] (by simpa using hn) (by simpa using hh)]
  rfl
theorem hk_int (i:Int):hk 8 (.int i)=true:=by unfold hk; rfl
theorem iN_inj {a b:Nat} (h:iN a=iN b):a=b:=by
  have:(a:Int)=(b:Int):=by injection h
  omega
end Pg


namespace Wl
open PySem PySem.Spec PyProof.Rows L2 Wy Pg
theorem cp_filter {α:Type} {it:Ga->R (List D)} {c:Ga->R Bool} {f:Ga->R D} {Γ:Ga} {g h:α->D} {p:α->Bool} {l:List α} (h1:it Γ=.ok (l.map g)) (h2:l.length < 16000000)
    (h3:∀ a∈l,c (.val (g a)::.un::Γ)=.ok (p a)) (h4:∀ a∈l,p a=true->f (.val (g a)::.un::Γ)=.ok (h a)):cpR it c f Γ=.ok ((l.filter p).map h):=by
  have main:∀ l:List α,(∀ a∈l,c (.val (g a)::.un::Γ)=.ok (p a))->(∀ a∈l,p a=true->f (.val (g a)::.un::Γ)=.ok (h a))->compR c f Γ (l.map g)=.ok ((l.filter p).map h):=by
    intro l
    induction l with
    | nil=>intro _ _; rfl
    | cons a l ih =>
      intro q1 q2
      have:=ih (λ b hb=>q1 b (List.mem_cons_of_mem _ hb)) (λ b hb=>q2 b (List.mem_cons_of_mem _ hb))
      have q1a:=q1 a List.mem_cons_self
      rw [List.map_cons,compR]
      cases hp:p a with
      | true =>
        have q2a:=q2 a List.mem_cons_self hp
        rw [hp] at q1a
        simp [q1a,q2a,this,hp]
      | false =>
        rw [hp] at q1a
        simp [q1a,this,hp]
  rw [cpR_eq,h1,R.bind_ok,if_pos (by simpa using h2),main l h3 h4]
theorem yd_ix {Y:List Wd} {w:Nat} (h:w < Y.length):ixD (dYd Y) (.int (w:Int))=some (dWd (wdAt Y w)):=by
  rw [show dYd Y=.tup (Y.map dWd) from rfl,ixD_tup]
  exact atI_nat (by rw [List.getElem?_map,wdAt_get h]; rfl)
theorem yd_len (Y:List Wd):lenD [dYd Y]=some (.int Y.length):=by rw [show dYd Y=.tup (Y.map dWd) from rfl,lenD_tup]; simp
theorem enum_nat (l:List Nat):enumL (l.map iN)=(List.range l.length).map λ i=>D.tup [iN i,iN (l.getD i 0)]:=by
  unfold enumL
  rw [List.length_map]
  refine List.map_congr_left λ i hi=>?_
  have hi':=List.mem_range.mp hi
  simp [List.getD_eq_getElem?_getD,hi']
theorem wdAt_movY {Y:List Wd} {pl:Nat->Option Nat} {kept:List Nat} {i:Nat} (h:i < kept.length):wdAt (movY Y pl kept) i=movW Y pl (kept.getD i 0):=by
  unfold wdAt movY
  simp [List.getD_eq_getElem?_getD,h]
theorem kept_at {kept:List Nat} {i:Nat} (h:i < kept.length):kept.getD i 0∈kept:=by
  rw [List.getD_eq_getElem?_getD,List.getElem?_eq_getElem h]
  exact List.getElem_mem h
theorem rowAt_movY {Y:List Wd} {pl:Nat->Option Nat} {kept:List Nat} {i k:Nat} (h:i < kept.length):rowAt (movY Y pl kept) i k=srtN ((rowAt Y (kept.getD i 0) k).filterMap pl):=by
  unfold rowAt
  rw [wdAt_movY h]
  unfold movW
  simp only [List.getD_eq_getElem?_getD,List.getElem?_map]
  cases (wdAt Y (kept[i]?.getD 0)).2[k]? with
  | none=>rfl
  | some r=>rfl
theorem movY_ok {Y:List Wd} (hY:YOk Y) {pl:Nat->Option Nat} {kept:List Nat} (h0:kept≠[]) (hk:∀ n∈kept,n < Y.length) (hp:∀ v p,pl v=some p->p < kept.length):YOk (movY Y pl kept) where
  three:=λ w hw=>by
    obtain ⟨n,hn,rfl⟩:=List.mem_map.mp hw
    unfold movW
    simp [hY.three _ (wdAt_mem (hk n hn))]
  there:=λ w hw r hr v hv=>by
    obtain ⟨n,hn,rfl⟩:=List.mem_map.mp hw
    obtain ⟨r',hr',rfl⟩:=List.mem_map.mp hr
    obtain ⟨u,_,e⟩:=List.mem_filterMap.mp (mem_srtN.mp hv)
    have:=hp u v e
    unfold movY
    simpa using this
  rise:=λ w hw r hr=>by
    obtain ⟨n,hn,rfl⟩:=List.mem_map.mp hw
    obtain ⟨r',hr',rfl⟩:=List.mem_map.mp hr
    exact srtN_rise _
  names:=λ w hw=>by
    obtain ⟨n,hn,rfl⟩:=List.mem_map.mp hw
    exact hY.names (wdAt Y n) (wdAt_mem (hk n hn))
  pos:=by
    unfold movY
    rw [List.length_map]
    cases kept with
    | nil=>exact absurd rfl h0
    | cons a r=>simp
theorem idxO_some {kept:List Nat} {v p:Nat} (h:idxO kept v=some p):p < kept.length/\kept.getD p 0=v:=by
  unfold idxO at h
  obtain ⟨h1,h2,_⟩:=List.findIdx?_eq_some_iff_getElem.mp h
  refine ⟨h1,?_⟩
  rw [List.getD_eq_getElem?_getD,List.getElem?_eq_getElem h1]
  exact of_decide_eq_true h2
theorem idxO_mem {kept:List Nat} {v:Nat} (h:v∈kept):∃ p,idxO kept v=some p:=by
  unfold idxO
  cases e:kept.findIdx? λ x=>decide (x=v) with
  | some p=>exact ⟨p,rfl⟩
  | none =>
    have:=List.findIdx?_eq_none_iff.mp e v h
    simp at this
theorem idxO_at {kept:List Nat} (hn:kept.Nodup) {i:Nat} (h:i < kept.length):idxO kept (kept.getD i 0)=some i:=by
  obtain ⟨p,e⟩:=idxO_mem (kept_at h)
  obtain ⟨h1,h2⟩:=idxO_some e
  rw [e]
  congr 1
  rw [List.getD_eq_getElem?_getD,List.getD_eq_getElem?_getD,List.getElem?_eq_getElem h1,List.getElem?_eq_getElem h] at h2
  exact (List.getElem?_inj h1 hn).mp (by rw [List.getElem?_eq_getElem h1,List.getElem?_eq_getElem h]; simpa using h2)
end Wl


namespace Pg
open PySem PySem.Spec PyProof.Rows L2 Wy Wl Lw
section
variable {Y:List Wd} {w:World}
end
end Pg


namespace Wl
open PySem PySem.Spec PyProof.Rows L2 Wy Pg
theorem wdAt_eq {Y:List Wd} {i:Nat} (h:i < Y.length):wdAt Y i=Y[i]:=by
  unfold wdAt
  rw [List.getD_eq_getElem?_getD,List.getElem?_eq_getElem h]
  rfl
structure Inv2 (n:Nat) (P K:List Nat):Prop where
  lp:P.length=n
  lk:K.length=n
  kp:∀ i,i < n->K.getD i 0 < n/\P.getD (K.getD i 0) 0=i
  pk:∀ v,v < n->P.getD v 0 < n/\K.getD (P.getD v 0) 0=v
section
variable {n:Nat} {P K:List Nat} (V:Inv2 n P K)
include V
end
end Wl


namespace Pg
open PySem PySem.Spec PyProof.Rows L2 Wy Wl Lw
end Pg


namespace Pg
open PySem PySem.Spec PyProof.Rows L2 Wy Wl Lw
abbrev N_q0:List Str:=["marks","first","place","mark"]
noncomputable def L_q0_1 (ww:World):Ga->RS:=(sSdefD ww 1 (eV 3) (eV 2))
noncomputable def B_q0 (ww:World):Ga->RS:=(sSeq (sSetD ww 1 oDnil) (sSeq (sFor (iE (eV 0)) (gTwo (gName' 2) (gName' 3)) (L_q0_1 ww)) (sRet (eO (cpR (iL (eV 0)) cTrue (eIxD (dV ww 3) (eV 0)))))))
noncomputable def M_q0:List D->R D:=λ ds=>parW λ ww=>callR N_q0 (B_q0 ww) ds
abbrev N_q12:List Str:=["world","sorts","number"]
noncomputable def B_q12 (M_q13:List D->R D):Ga->RS:=(sRet (eTup (aCons (e2 ixD (eV 1) (eV 2)) (aCons (eS tupS (sO (cpR (iR1 (aCons (eC (.int 3)) aNil)) cTrue (eS tupS (sO (oSortSet (sE (eCall M_q13 (aCons (eV 2) (aCons (eV 0) (aCons (eV 3) aNil))))))))))) aNil))))
noncomputable def M_q12:List D->R D:=λ ds=>callR N_q12 (B_q12 M_q13) ds
abbrev N_q5:List Str:=["yard","sorts"]
noncomputable def B_q5 (M_q0:List D->R D) (M_q12:List D->R D):Ga->RS:=(sRet (eCall M_q0 (aCons (eO (cpR2 (iE (eV 0)) cTrue (eCall M_q12 (aCons (eV 1) (aCons (eV 4) (aCons (eV 0) aNil)))))) aNil)))
noncomputable def M_q5:List D->R D:=λ ds=>callR N_q5 (B_q5 M_q0 M_q12) ds
abbrev N_q6:List Str:=["yard","stages","finer"]
noncomputable def L_q6_1 (M_q5:List D->R D):Ga->RS:=(sSeq (sApp 1 (eV 2)) (sSet 2 (eCall M_q5 (aCons (eV 0) (aCons (eV 2) aNil)))))
noncomputable def B_q6 (M_q0:List D->R D) (M_q5:List D->R D):Ga->RS:=(sSeq (sSetO 1 (aCons (eCall M_q0 (aCons (eO (cpR (iT (eV 0)) cTrue (e2 ixD (eV 0) (eC (.int 0))))) aNil)) aNil)) (sSeq (sSet 2 (eCall M_q5 (aCons (eV 0) (aCons (eIxS (sV 1) (eC (.int 0))) aNil)))) (sSeq (sWhile (tB (e2 neD (eV 2) (eIxS (sV 1) (eNeg (eC (.int 1)))))) (L_q6_1 M_q5)) (sRetO 1))))
noncomputable def M_q6:List D->R D:=λ ds=>callR N_q6 (B_q6 M_q0 M_q5) ds
abbrev N_q10:List Str:=["yard"]
noncomputable def B_q10 (M_q6:List D->R D):Ga->RS:=(sRet (eS tupS (sE (e2 ixD (eCall M_q6 (aCons (eV 0) aNil)) (eNeg (eC (.int 1)))))))
noncomputable def M_q10:List D->R D:=λ ds=>callR N_q10 (B_q10 M_q6) ds
end Pg


namespace Pg
open PySem PySem.Spec PyProof.Rows L2 Wy Wl Lw
structure FK {α:Type} [DecidableEq α] (g:α->D) (l:List α) (j:Nat) (kvs:List (D×D)):Prop where
  len:kvs.length<=j
  yes:∀ a∈l,(l.findIdx λ b=>decide (b=a)) < j->∃ q,kIx (g a) kvs=some q/\kvs[q]?.map (·.2)=some (iN (l.findIdx λ b=>decide (b=a)))
  no:∀ a∈l,¬ (l.findIdx λ b=>decide (b=a)) < j->kIx (g a) kvs=none
section
variable {α:Type} [DecidableEq α] {g:α->D} {l:List α} (hl:l.length < 64) (hh:∀ a∈l,hk 8 (g a)=true) (hg:∀ a∈l,∀ b∈l,eqDD (g a) (g b)=decide (a=b))
include hg
theorem fk_step {j:Nat} (hj:j < l.length) {kvs:List (D×D)} (F:FK g l j kvs):FK g l (j + 1) (defK (g l[j]) (iN j) kvs):=by
  have mj:l[j]∈l:=List.getElem_mem hj
  have le:(l.findIdx λ b=>decide (b=l[j]))<=j:=by
    rcases Nat.lt_or_ge j (l.findIdx λ b=>decide (b=l[j])) with h | h
    · exact absurd (List.not_of_lt_findIdx h) (by simp)
    · exact h
  have at_:∀ a∈l,(l.findIdx λ b=>decide (b=a))=j->a=l[j]:=λ a ha e=>by
    have hlt:(l.findIdx λ b=>decide (b=a)) < l.length:=by rw [e]; exact hj
    have:=List.findIdx_getElem (w:=hlt)
    have h2:=of_decide_eq_true this
    have h3:l[(l.findIdx λ b=>decide (b=a))]=l[j]:=by congr 1
    rw [h3] at h2
    exact h2.symm
  by_cases q:(l.findIdx λ b=>decide (b=l[j])) < j
  · obtain ⟨p,hp,_⟩:=F.yes _ mj q
    have e:defK (g l[j]) (iN j) kvs=kvs:=by unfold defK; rw [hp]; rfl
    rw [e]
    refine ⟨Nat.le_succ_of_le F.len,λ a ha h=>?_,λ a ha h=>F.no a ha λ z=>h (Nat.lt_succ_of_lt z)⟩
    rcases Nat.lt_or_ge (l.findIdx λ b=>decide (b=a)) j with z | z
    · exact F.yes a ha z
    · have e2:(l.findIdx λ b=>decide (b=a))=j:=by omega
      have:=at_ a ha e2
      rw [this] at e2
      omega
  · have eq:(l.findIdx λ b=>decide (b=l[j]))=j:=by omega
    have hn:=F.no _ mj q
    have e:defK (g l[j]) (iN j) kvs=kvs++[(g l[j],iN j)]:=by unfold defK; rw [hn]; rfl
    rw [e]
    refine ⟨by simp; exact F.len,λ a ha h=>?_,λ a ha h=>?_⟩
    · rcases Nat.lt_or_ge (l.findIdx λ b=>decide (b=a)) j with z | z
      · obtain ⟨p,h1,h2⟩:=F.yes a ha z
        have hpl:p < kvs.length:=(List.findIdx?_eq_some_iff_getElem.mp (show kvs.findIdx? (λ p=>eqDD p.1 (g a))=some p from h1)).1
        refine ⟨p,?_,by rw [List.getElem?_append_left hpl]; exact h2⟩
        unfold kIx at h1 ⊢
        rw [List.findIdx?_append,h1]
        rfl
      · have e2:(l.findIdx λ b=>decide (b=a))=j:=by omega
        have ea:=at_ a ha e2
        subst ea
        refine ⟨kvs.length,?_,by rw [eq]; simp⟩
        unfold kIx at hn ⊢
        rw [List.findIdx?_append,hn]
        have:=hg _ mj _ mj
        rw [decide_eq_true rfl] at this
        simp [this]
    · have hna:=F.no a ha λ z=>h (Nat.lt_succ_of_lt z)
      have ne:l[j]≠a:=λ z=>by rw [z] at eq; omega
      unfold kIx at hna ⊢
      rw [List.findIdx?_append,hna]
      have:=hg _ mj _ ha
      rw [decide_eq_false ne] at this
      simp [this]
include hl hh
theorem first_loop {w:World}:∀ (m j:Nat) (kvs:List (D×D)) (x2 x3:Sl),j + m=l.length->FK g l j kvs->∃ kvs' y2 y3,FK g l l.length kvs' /\
    sTurns (gTwo (gName' 2) (gName' 3)) (L_q0_1 w) ((List.range' j m).map λ i=>D.tup [iN i,(l.map g).getD i .non]) [.val (.lst (l.map g)),.dic w kvs,x2,x3]=.nx [.val (.lst (l.map g)),.dic w kvs',y2,y3]
  | 0,j,kvs,x2,x3,h,F=>⟨kvs,x2,x3,by rw [Nat.add_zero] at h; rw [<- h]; exact F,rfl⟩
  | m + 1,j,kvs,x2,x3,h,F=>by
    have hj:j < l.length:=by omega
    have ge:(l.map g).getD j .non=g l[j]:=by rw [List.getD_eq_getElem?_getD,List.getElem?_map,List.getElem?_eq_getElem hj]; rfl
    obtain ⟨kvs',y2,y3,F',e⟩:=first_loop m (j + 1) (defK (g l[j]) (iN j) kvs) (.val (iN j)) (.val (g l[j])) (by omega) (fk_step hg hj F)
    refine ⟨kvs',y2,y3,F',?_⟩
    have step:L_q0_1 w [.val (.lst (l.map g)),.dic w kvs,.val (iN j),.val (g l[j])]=.nx [.val (.lst (l.map g)),.dic w (defK (g l[j]) (iN j) kvs),.val (iN j),.val (g l[j])]:=by
      unfold L_q0_1
      rw [sSdefD_at (kvs:=kvs) rfl]
      rw [show eV 3 [.val (.lst (l.map g)),.dic w kvs,.val (iN j),.val (g l[j])]=.ok (g l[j]) from rfl,show eV 2 [.val (.lst (l.map g)),.dic w kvs,.val (iN j),.val (g l[j])]=.ok (iN j) from rfl]
      show (if _ then _ else _)=_
      rw [if_pos ⟨hh _ (List.getElem_mem hj),by have:=F.len; omega⟩]
      rfl
    rw [List.range'_succ,List.map_cons,ge]
    unfold sTurns
    rw [show gTwo (gName' 2) (gName' 3) (D.tup [iN j,g l[j]]) [.val (.lst (l.map g)),.dic w kvs,x2,x3]=some [.val (.lst (l.map g)),.dic w kvs,.val (iN j),.val (g l[j])] from rfl]
    dsimp only
    rw [step]
    exact e
theorem m_firsts:M_q0 [.lst (l.map g)]=.ok (.lst ((fp l).map iN)):=by
  refine parW_is λ w=>?_
  obtain ⟨kvs,y2,y3,F,e⟩:=first_loop (w:=w) hl hh hg l.length 0 [] .un .un (by omega) ⟨Nat.le_refl _,λ a ha h=>absurd h (Nat.not_lt_zero _),λ a ha h=>rfl⟩
  rw [<- List.range_eq_range'] at e
  have en:enumD (.lst (l.map g))=some ((List.range l.length).map λ i=>D.tup [iN i,(l.map g).getD i .non]):=by
    rw [enumD_lst]
    unfold enumL
    rw [List.length_map]
  have c:cpR (iL (eV 0)) cTrue (eIxD (dV w 3) (eV 0)) [.val (.lst (l.map g)),.dic w kvs,y2,y3]=.ok ((fp l).map iN):=by
    have:=cp_of (it:=iL (eV 0)) (f:=eIxD (dV w 3) (eV 0)) (Γ:=[.val (.lst (l.map g)),.dic w kvs,y2,y3]) (l:=l) (g:=g) (h:=λ a=>iN (l.findIdx λ b=>decide (b=a))) (by simp) (by omega) (λ a ha=>by
      obtain ⟨q,h1,h2⟩:=F.yes a ha (List.findIdx_lt_length_of_exists ⟨a,ha,by simp⟩)
      rw [eIxD_eq]
      simp only [dV_succ,dV_zd]
      rw [R.bind_ok,show eV 0 (Sl.val (g a)::.un::[.val (.lst (l.map g)),.dic w kvs,y2,y3])=.ok (g a) from rfl,R.bind_ok]
      unfold getK
      rw [if_pos (hh a ha),h1]
      show R.ofO (kvs[q]?.map (·.2))=_
      rw [h2]
      rfl)
    rw [this]
    unfold fp
    rw [List.map_map]
    rfl
  generalize ((List.range l.length).map λ i=>D.tup [iN i,(l.map g).getD i .non])=es at *
  generalize l.map g=ms at *
  generalize (fp l).map iN=rs at *
  simp [-cpR_eq,B_q0,begin_,en,e,c]
end
theorem hkL_all:∀ {n:Nat} {ds:List D},(∀ d∈ds,hk n d=true)->hkL n ds=true
  | n,[],_=>by unfold hkL; rfl
  | n,d::ds,h=>by
    rw [hkL_cons,h d List.mem_cons_self,hkL_all λ e he=>h e (List.mem_cons_of_mem _ he)]
    rfl
theorem hk_t {n:Nat} {ds:List D} (h:∀ d∈ds,hk n d=true):hk (n + 1) (.tup ds)=true:=by
  unfold hk
  exact hkL_all h
theorem hk_i (n:Nat) (i:Int):hk n (.int i)=true:=by cases n <;> (unfold hk; rfl)
theorem hk_s (n:Nat) (x:Str):hk n (.str x)=true:=by cases n <;> (unfold hk; rfl)
theorem hk_row (n:Nat) (r:List Nat):hk (n + 1) (dRow r)=true:=hk_t λ d hd=>by
  obtain ⟨v,_,rfl⟩:=List.mem_map.mp hd
  exact hk_i _ _
theorem hk_names (ns:List Str):hk 8 (dNames ns)=true:=hk_t λ d hd=>by
  obtain ⟨v,_,rfl⟩:=List.mem_map.mp hd
  exact hk_s _ _
theorem eq_dec {α:Type} [DecidableEq α] {g:α->D} (inj:∀ a b,g a=g b->a=b) (hh:∀ a,hk 8 (g a)=true) (a b:α):eqDD (g a) (g b)=decide (a=b):=by
  rw [Bool.eq_iff_iff,decide_eq_true_iff]
  constructor
  · intro h
    exact inj a b (hk_eq 8 8 _ _ (hh a) (hh b) h)
  · rintro rfl
    exact eqDD_refl _
theorem map_inj {α β:Type} {f:α->β} (h:∀ a b,f a=f b->a=b):∀ {a b:List α},a.map f=b.map f->a=b
  | [],[],_=>rfl
  | [],_::_,e=>by cases e
  | _::_,[],e=>by cases e
  | x::a,y::b,e=>by
    rw [List.map_cons,List.map_cons] at e
    injection e with e1 e2
    rw [h x y e1,map_inj h e2]
theorem names_inj (a b:List Str) (h:dNames a=dNames b):a=b:=by
  unfold dNames at h
  injection h with h
  exact map_inj (λ x y e=>by injection e) h
theorem row_inj (a b:List Nat) (h:dRow a=dRow b):a=b:=by
  unfold dRow at h
  injection h with h
  exact map_inj (λ x y e=>iN_inj e) h
def gM (p:Nat×List (List Nat)):D:=.tup [iN p.1,.tup (p.2.map dRow)]
theorem gM_inj (p q:Nat×List (List Nat)) (h:gM p=gM q):p=q:=by
  unfold gM at h
  injection h with h
  injection h with h1 h2
  injection h2 with h2 _
  injection h2 with h2
  exact Prod.ext (iN_inj h1) (map_inj row_inj h2)
theorem gM_hk (p:Nat×List (List Nat)):hk 8 (gM p)=true:=hk_t λ d hd=>by
  simp only [List.mem_cons,List.not_mem_nil,or_false] at hd
  rcases hd with rfl | rfl
  · exact hk_i _ _
  · exact hk_t λ d hd=>by
      obtain ⟨r,_,rfl⟩:=List.mem_map.mp hd
      exact hk_row _ r
def namesOf (Y:List Wd):List (List Str):=Y.map (·.1)
theorem names_len (Y:List Wd):(namesOf Y).length=Y.length:=by unfold namesOf; simp
section
variable {Y:List Wd} (hY:YOk Y) (hl:Y.length < 64)
include hY hl
theorem m_ledS {S:List Nat} (hS:S.length=Y.length) {w k:Nat} (hw:w < Y.length) (hk:k < 3):M_q13 [dWd (wdAt Y w),.int (k:Int),.lst (S.map iN)]=.ok (.lst (((rowAt Y w k).map λ v=>S.getD v 0).map iN)):=by
  have e1:=ways_at hY hw hk
  have hrl:=row_len hY (k:=k) hw
  have e:cpR (iT (e2 ixD (e2 ixD (eV 0) (eC (.int 1))) (eV 1))) cTrue (e2 ixD (eV 4) (eV 0)) [.val (dWd (wdAt Y w)),.val (.int (k:Int)),.val (.lst (S.map iN))]=.ok (((rowAt Y w k).map λ v=>S.getD v 0).map iN):=by
    rw [List.map_map]
    refine cp_of (g:=iN) (h:=iN ∘ λ v=>S.getD v 0) (by simp [e1,dRow,asT]) (by omega) λ v hv=>?_
    have hv':v < S.length:=by rw [hS]; exact rowAt_there hY hw v hv
    have:ixD (.lst (S.map iN)) (.int (v:Int))=some (iN (S.getD v 0)):=by
      have:atI (S.map iN) (v:Int)=some (iN (S.getD v 0)):=atI_nat (by simp [List.getD_eq_getElem?_getD,hv'])
      exact this
    simp [this]
  simp [-cpR_eq,M_q13,B_q13,begin_,e]
theorem m_mark {S:List Nat} (hS:S.length=Y.length) {i:Nat} (hi:i < Y.length):M_q12 [dWd (wdAt Y i),.lst (S.map iN),.int (i:Int)]=.ok (gM (mkP (rowAt Y) S i)):=by
  have e0:ixD (.lst (S.map iN)) (.int (i:Int))=some (iN (S.getD i 0)):=by
    have hv':i < S.length:=by rw [hS]; exact hi
    have:atI (S.map iN) (i:Int)=some (iN (S.getD i 0)):=atI_nat (by simp [List.getD_eq_getElem?_getD,hv'])
    exact this
  have c:cpR (iR1 (aCons (eC (.int 3)) aNil)) cTrue (eS tupS (sO (oSortSet (sE (eCall M_q13 (aCons (eV 2) (aCons (eV 0) (aCons (eV 3) aNil)))))))) [.val (dWd (wdAt Y i)),.val (.lst (S.map iN)),.val (.int (i:Int))]=.ok ((List.range 3).map λ k=>dRow (dst (rowAt Y) S i k)):=by
    refine cp_of (l:=List.range 3) (g:=iN) (h:=λ k=>dRow (dst (rowAt Y) S i k)) ?_ (by simp) ?_
    · have:rng1 [.int 3]=some ((List.range 3).map iN):=rng1_nat (k:=3) (by omega)
      simp [this]
    · intro k hk
      have e1:=m_ledS hY hl hS hi (List.mem_range.mp hk)
      have hrl:=rowAt_len hY hi (k:=k)
      have e2:=sortSet_nat ((rowAt Y i k).map λ v=>S.getD v 0) (by rw [List.length_map]; omega)
      unfold dst
      generalize ((rowAt Y i k).map λ v=>S.getD v 0)=zs at *
      simp [e1,e2]
      rfl
  unfold gM mkP
  rw [List.map_map]
  rw [show dRow ∘ dst (rowAt Y) S i=λ k=>dRow (dst (rowAt Y) S i k) from rfl]
  generalize ((List.range 3).map λ k=>dRow (dst (rowAt Y) S i k))=zs at *
  generalize S.getD i 0=u at *
  simp [-cpR_eq,M_q12,B_q12,begin_,e0,c]
theorem m_next {S:List Nat} (hS:S.length=Y.length):M_q5 [dYd Y,.lst (S.map iN)]=.ok (.lst ((fp ((List.range Y.length).map (mkP (rowAt Y) S))).map iN)):=by
  have c:cpR2 (iE (eV 0)) cTrue (eCall M_q12 (aCons (eV 1) (aCons (eV 4) (aCons (eV 0) aNil)))) [.val (dYd Y),.val (.lst (S.map iN))]=.ok (((List.range Y.length).map (mkP (rowAt Y) S)).map gM):=by
    rw [List.map_map]
    refine cp2_of (it:=iE (eV 0)) (l:=List.range Y.length) (g1:=iN) (g2:=λ i=>dWd (wdAt Y i)) (h:=gM ∘ mkP (rowAt Y) S) ?_ (by simp; omega) ?_
    · have en:enumD (dYd Y)=some ((List.range Y.length).map λ i=>D.tup [iN i,dWd (wdAt Y i)]):=by
        unfold dYd
        rw [enumD_tup]
        congr 1
        unfold enumL
        rw [List.length_map]
        refine List.map_congr_left λ i hi=>?_
        have hi':=List.mem_range.mp hi
        rw [List.getD_eq_getElem?_getD,List.getElem?_map,wdAt_get hi']
        rfl
      simp [en]
    · intro i hi
      have:=m_mark hY hl hS (List.mem_range.mp hi)
      simp [this]
  have e:=m_firsts (l:=(List.range Y.length).map (mkP (rowAt Y) S)) (g:=gM) (by simp; omega) (λ a _=>gM_hk a) (λ a _ b _=>eq_dec gM_inj gM_hk a b)
  generalize ((List.range Y.length).map (mkP (rowAt Y) S)).map gM=zs at *
  simp [M_q5,B_q5,begin_,c,e]
end
def stN (Y:List Wd) (m:Nat):List Nat:=stP (namesOf Y) (rowAt Y) m
def dSt (S:List Nat):D:=.lst (S.map iN)
theorem stN_len (Y:List Wd):∀ m,(stN Y m).length=Y.length
  | 0=>by unfold stN stP; rw [fp_len,names_len]
  | m + 1=>by unfold stN stP; rw [fp_len,List.length_map,List.length_range,names_len]
theorem hk_ints (n:Nat) (S:List Nat):hkL n (S.map iN)=true:=hkL_all λ d hd=>by
  obtain ⟨v,_,rfl⟩:=List.mem_map.mp hd
  exact hk_i _ _
theorem dep_ints (S:List Nat):depDL (S.map iN)<=90:=Nat.le_trans (depDL_le (n:=0) λ d hd=>by
  obtain ⟨v,_,rfl⟩:=List.mem_map.mp hd
  simp) (by omega)
theorem ne_st (S T:List Nat):neD (dSt S) (dSt T)=some (.bl (decide (S≠T))):=by
  unfold dSt
  rw [neD_of (by have:=dep_ints S; unfold depD; omega)]
  congr 2
  have:eqDD (.lst (S.map iN)) (.lst (T.map iN))=decide (S=T):=by
    rw [Bool.eq_iff_iff,decide_eq_true_iff]
    constructor
    · intro h
      have h:eqDL (S.map iN) (T.map iN)=true:=by unfold eqDD at h; exact h
      exact map_inj (λ x y e=>iN_inj e) (hkL_eq 8 8 _ _ (hk_ints 8 S) (hk_ints 8 T) h)
    · rintro rfl
      exact eqDD_refl _
  rw [this]
  simp
theorem at_last {f:Nat->D} (j:Nat):atI ((List.range (j + 1)).map f) (-1)=some (f j):=by
  unfold atI ixN
  rw [if_neg (by omega),List.length_map,List.length_range,if_pos (by omega)]
  show ((List.range (j + 1)).map f)[(-1 + ((j + 1:Nat):Int)).toNat]?=_
  rw [show (-1 + ((j + 1:Nat):Int)).toNat=j by omega]
  simp
section
variable {Y:List Wd} (hY:YOk Y) (hl:Y.length < 64)
include hY hl
theorem m_stages:∃ m,m < Y.length/\stN Y (m + 1)=stN Y m/\(∀ d,d < m->stN Y (d + 1)≠stN Y d)/\M_q6 [dYd Y]=.ok (.lst ((List.range (m + 1)).map λ d=>dSt (stN Y d))):=by
  obtain ⟨m,h1,h2,h3⟩:=stP_rest (N:=namesOf Y) (ch:=rowAt Y) (by rw [names_len]; exact hY.pos)
  rw [names_len] at h1
  refine ⟨m,h1,h2,h3,?_⟩
  have nx:∀ d,M_q5 [dYd Y,dSt (stN Y d)]=.ok (dSt (stN Y (d + 1))):=λ d=>by
    have:=m_next hY hl (stN_len Y d)
    unfold dSt
    rw [this]
    unfold stN
    rw [show stP (namesOf Y) (rowAt Y) (d + 1)=fp ((List.range (namesOf Y).length).map (mkP (rowAt Y) (stP (namesOf Y) (rowAt Y) d))) from rfl,names_len]
  have c0:∀ Γ:Ga,cpR (iT (eV 0)) cTrue (e2 ixD (eV 0) (eC (.int 0))) (.val (dYd Y)::Γ)=.ok ((namesOf Y).map dNames):=λ Γ=>by
    unfold namesOf
    rw [List.map_map]
    refine cp_of (l:=Y) (g:=dWd) (h:=dNames ∘ λ w=>w.1) (by simp [dYd]) (by omega) λ w hw=>?_
    have:ixD (dWd w) (.int 0)=some (dNames w.1):=rfl
    simp [this]
  have f0:M_q0 [.lst ((namesOf Y).map dNames)]=.ok (dSt (stN Y 0)):=m_firsts (l:=namesOf Y) (g:=dNames) (by rw [names_len]; exact hl) (λ a _=>hk_names a) (λ a _ b _=>eq_dec names_inj hk_names a b)
  have i0:atI [dSt (stN Y 0)] 0=some (dSt (stN Y 0)):=atI_zero _ _
  have wh:sWhile (tB (e2 neD (eV 2) (eIxS (sV 1) (eNeg (eC (.int 1)))))) (L_q6_1 M_q5) [.val (dYd Y),.own [dSt (stN Y 0)],.val (dSt (stN Y 1))]=.nx [.val (dYd Y),.own ((List.range (m + 1)).map λ d=>dSt (stN Y d)),.val (dSt (stN Y (m + 1)))]:=by
    refine while_inv (m:=m) (λ k Γ=>∃ j,j + k=m/\Γ=[.val (dYd Y),.own ((List.range (j + 1)).map λ d=>dSt (stN Y d)),.val (dSt (stN Y (j + 1)))]) (λ r=>r=.nx [.val (dYd Y),.own ((List.range (m + 1)).map λ d=>dSt (stN Y d)),.val (dSt (stN Y (m + 1)))]) ⟨0,by omega,rfl⟩ (by unfold FUEL; omega) ?_
    rintro k Γ ⟨j,hj,rfl⟩
    have la:=at_last (f:=λ d=>dSt (stN Y d)) j
    have ne:=ne_st (stN Y (j + 1)) (stN Y j)
    have n2:=nx (j + 1)
    have ap:((List.range (j + 1)).map λ d=>dSt (stN Y d))++[dSt (stN Y (j + 1))]=(List.range (j + 1 + 1)).map λ d=>dSt (stN Y d):=by
      rw [List.range_succ (n:=j + 1),List.map_append]
      rfl
    have len:((List.range (j + 1)).map λ d=>dSt (stN Y d)).length < 16000000:=by simp; omega
    rcases Nat.lt_or_ge j m with q | q
    · right
      have h3':stN Y (j + 1)≠stN Y j:=h3 j q
      rw [decide_eq_true h3'] at ne
      refine ⟨?_,.inl ⟨_,k - 1,.inl (show _=RS.nx [.val (dYd Y),.own ((List.range (j + 1 + 1)).map λ d=>dSt (stN Y d)),.val (dSt (stN Y (j + 1 + 1)))] from ?_),by omega,j + 1,by omega,rfl⟩⟩
      · generalize ((List.range (j + 1)).map λ d=>dSt (stN Y d))=xs at *
        simp [la,ne]
      · rw [<- ap]
        generalize ((List.range (j + 1)).map λ d=>dSt (stN Y d))=xs at *
        simp [L_q6_1,len,n2]
    · left
      obtain rfl:j=m:=by omega
      have h2':stN Y (j + 1)=stN Y j:=h2
      rw [decide_eq_false (λ z=>z h2')] at ne
      refine ⟨?_,rfl⟩
      generalize ((List.range (j + 1)).map λ d=>dSt (stN Y d))=xs at *
      simp [la,ne]
  have n0:=nx 0
  generalize (namesOf Y).map dNames=zs at *
  generalize ((List.range (m + 1)).map λ d=>dSt (stN Y d))=xs at *
  simp [-cpR_eq,M_q6,B_q6,begin_,c0,f0,i0,n0,wh]
theorem m_q10:∃ m,m < Y.length/\stN Y (m + 1)=stN Y m/\M_q10 [dYd Y]=.ok (dRow (stN Y m)):=by
  obtain ⟨m,h1,h2,_,e⟩:=m_stages hY hl
  refine ⟨m,h1,h2,?_⟩
  have la:ixD (.lst ((List.range (m + 1)).map λ d=>dSt (stN Y d))) (.int (-1))=some (dSt (stN Y m)):=at_last (f:=λ d=>dSt (stN Y d)) m
  have sq:seqOf (dSt (stN Y m))=some (false,(stN Y m).map iN):=rfl
  have tu:tupS (false,(stN Y m).map iN)=some (dRow (stN Y m)):=rfl
  generalize ((List.range (m + 1)).map λ d=>dSt (stN Y d))=xs at *
  simp [M_q10,B_q10,begin_,e,la,sq,tu]
end
end Pg


namespace Pg
open PySem PySem.Spec PyProof.Rows L2 Wy Wl Lw
abbrev N_q14:List Str:=["yard","least","kept","places"]
noncomputable def B_q14 (ww:World) (M_q10:List D->R D) (M_q15:List D->R D):Ga->RS:=(sSeq (sSet 1 (eCall M_q10 (aCons (eV 0) aNil))) (sSeq (sSet 2 (eO (oSortSet (sV 1)))) (sSeq (sSetD ww 3 (oDpairs (sO (cpR2 (iE (eV 1)) cTrue (eTup (aCons (eV 0) (aCons (eIndex (sV 5) (eV 1)) aNil))))))) (sRet (eCall M_q15 (aCons (eV 0) (aCons (eV 2) (aDic (dV ww 3) aNil))))))))
noncomputable def M_q14:List D->R D:=λ ds=>parW λ ww=>callR N_q14 (B_q14 ww M_q10 M_q15) ds
end Pg


namespace Wl
open PySem PySem.Spec PyProof.Rows L2 Wy Pg
section
variable {Y:List Wd} (hY:YOk Y) {m:Nat} (hr:stN Y (m + 1)=stN Y m)
def kpt (Y:List Wd) (m:Nat):List Nat:=srtN (stN Y m)
def plF (Y:List Wd) (m v:Nat):Nat:=(idxO (kpt Y m) ((stN Y m).getD v 0)).getD 0
def plO (Y:List Wd) (m v:Nat):Option Nat:=if v < Y.length then some (plF Y m v) else none
def fol (Y:List Wd) (m:Nat):List Wd:=movY Y (plO Y m) (kpt Y m)
omit hr in
theorem st_can (Y:List Wd) (m:Nat):Can Y.length (stN Y m):=by
  have:Can (Pg.namesOf Y).length (stN Y m):=stP_can m
  rw [names_len] at this
  exact this
theorem st_lt (Y:List Wd) (m:Nat) {v:Nat} (hv:v < Y.length):(stN Y m).getD v 0 < Y.length:=Nat.lt_of_le_of_lt ((st_can Y m).le v hv) hv
theorem st_mem (Y:List Wd) (m:Nat) {v:Nat} (hv:v < Y.length):(stN Y m).getD v 0∈kpt Y m:=by
  unfold kpt
  rw [mem_srtN,List.getD_eq_getElem?_getD,List.getElem?_eq_getElem (by rw [stN_len]; exact hv)]
  exact List.getElem_mem _
theorem mem_kpt (Y:List Wd) (m:Nat) {x:Nat}:x∈kpt Y m↔x < Y.length/\(stN Y m).getD x 0=x:=by
  unfold kpt
  rw [mem_srtN]
  constructor
  · intro h
    obtain ⟨i,hi,rfl⟩:=List.mem_iff_getElem.mp h
    rw [stN_len] at hi
    have e:(stN Y m)[i]'(by rw [stN_len]; exact hi)=(stN Y m).getD i 0:=by rw [List.getD_eq_getElem?_getD,List.getElem?_eq_getElem (by rw [stN_len]; exact hi)]; rfl
    rw [e]
    exact ⟨st_lt Y m hi,(st_can Y m).fix i hi⟩
  · rintro ⟨h1,h2⟩
    rw [List.getD_eq_getElem?_getD,List.getElem?_eq_getElem (by rw [stN_len]; exact h1)] at h2
    rw [<- h2]
    exact List.getElem_mem _
theorem kpt_nd (Y:List Wd) (m:Nat):(kpt Y m).Nodup:=rise_nodup (srtN_rise _)
theorem plF_some (Y:List Wd) (m:Nat) {v:Nat} (hv:v < Y.length):idxO (kpt Y m) ((stN Y m).getD v 0)=some (plF Y m v):=by
  obtain ⟨p,hp⟩:=idxO_mem (st_mem Y m hv)
  unfold plF
  rw [hp]
  rfl
theorem plF_at (Y:List Wd) (m:Nat) {v:Nat} (hv:v < Y.length):plF Y m v < (kpt Y m).length/\(kpt Y m).getD (plF Y m v) 0=(stN Y m).getD v 0:=idxO_some (plF_some Y m hv)
theorem plF_eq (Y:List Wd) (m:Nat) {u v:Nat} (hu:u < Y.length) (hv:v < Y.length):plF Y m u=plF Y m v↔(stN Y m).getD u 0=(stN Y m).getD v 0:=by
  constructor
  · intro e
    rw [<- (plF_at Y m hu).2,<- (plF_at Y m hv).2,e]
  · intro e
    unfold plF
    rw [e]
theorem plF_kept (Y:List Wd) (m:Nat) {a:Nat} (ha:a < (kpt Y m).length):(kpt Y m).getD a 0 < Y.length/\plF Y m ((kpt Y m).getD a 0)=a:=by
  have hm:=kept_at ha
  obtain ⟨h1,h2⟩:=(mem_kpt Y m).mp hm
  refine ⟨h1,?_⟩
  have:=plF_some Y m h1
  rw [h2,idxO_at (kpt_nd Y m) ha] at this
  exact (Option.some.inj this).symm
theorem fol_len (Y:List Wd) (m:Nat):(fol Y m).length=(kpt Y m).length:=by unfold fol movY; simp
include hY in
theorem fol_ok:YOk (fol Y m):=by
  refine movY_ok hY (λ z=>?_) (λ n hn=>((mem_kpt Y m).mp hn).1) λ v p e=>?_
  · have:=st_mem Y m (v:=0) hY.pos
    rw [z] at this
    cases this
  · unfold plO at e
    split at e
    · rename_i hv
      cases e
      exact (plF_at Y m hv).1
    · cases e
include hY hr
theorem st_dst {a b:Nat} (ha:a < Y.length) (hb:b < Y.length) (e:(stN Y m).getD a 0=(stN Y m).getD b 0):∀ k,k < 3->dst (rowAt Y) (stN Y m) a k=dst (rowAt Y) (stN Y m) b k:=by
  have nl:∀ {a:Nat},a < Y.length->a < (Pg.namesOf Y).length:=λ h=>by rw [names_len]; exact h
  have:(stN Y (m + 1)).getD a 0=(stN Y (m + 1)).getD b 0:=by rw [hr]; exact e
  exact ((stP_succ (N:=Pg.namesOf Y) (ch:=rowAt Y) (nl ha) (nl hb)).mp this).2
theorem st_nam {a b:Nat} (ha:a < Y.length) (hb:b < Y.length) (e:(stN Y m).getD a 0=(stN Y m).getD b 0):(wdAt Y a).1=(wdAt Y b).1:=by
  have nl:∀ {a:Nat},a < Y.length->a < (Pg.namesOf Y).length:=λ h=>by rw [names_len]; exact h
  have e0:=stP_fin0 (N:=Pg.namesOf Y) (ch:=rowAt Y) m a b (nl ha) (nl hb) e
  have e1:=(fp_eq (nl ha) (nl hb)).mp e0
  have ga:∀ {c:Nat} (hc:c < Y.length),(Pg.namesOf Y)[c]'(nl hc)=(wdAt Y c).1:=λ {c} hc=>by
    have e:(Pg.namesOf Y)[c]?=some (wdAt Y c).1:=by unfold Pg.namesOf; rw [List.getElem?_map,wdAt_get hc]; rfl
    rw [List.getElem?_eq_getElem (nl hc)] at e
    exact Option.some.inj e
  rw [ga ha,ga hb] at e1
  exact e1
theorem fol_nam {u:Nat} (hu:u < Y.length):(wdAt (fol Y m) (plF Y m u)).1=(wdAt Y u).1:=by
  obtain ⟨h1,h2⟩:=plF_at Y m hu
  unfold fol
  rw [wdAt_movY h1,h2]
  exact st_nam hY hr (st_lt Y m hu) hu ((st_can Y m).fix u hu)
theorem fol_row {u:Nat} (hu:u < Y.length) {k:Nat} (hk:k < 3) (x:Nat):x∈rowAt (fol Y m) (plF Y m u) k↔∃ v∈rowAt Y u k,plF Y m v=x:=by
  obtain ⟨h1,h2⟩:=plF_at Y m hu
  have hT:=st_lt Y m hu
  have D:=dst_iff.mp (st_dst hY hr hT hu ((st_can Y m).fix u hu) k hk)
  unfold fol
  rw [rowAt_movY h1,h2,mem_srtN,List.mem_filterMap]
  constructor
  · rintro ⟨v,hv,e⟩
    have hvl:=rowAt_there hY hT v hv
    unfold plO at e
    rw [if_pos hvl] at e
    obtain ⟨w,hw,q⟩:=D.1 v hv
    exact ⟨w,hw,((plF_eq Y m (rowAt_there hY hu w hw) hvl).mpr q.symm).trans (Option.some.inj e)⟩
  · rintro ⟨w,hw,rfl⟩
    obtain ⟨v,hv,q⟩:=D.2 w hw
    have hvl:=rowAt_there hY hT v hv
    refine ⟨v,hv,?_⟩
    unfold plO
    rw [if_pos hvl,(plF_eq Y m hvl (rowAt_there hY hu w hw)).mpr q]
theorem fol_sat (s:Say) (ho:okS s=true) {u:Nat} (hu:u < Y.length):sat Y s u=sat (fol Y m) s (plF Y m u):=by
  have B:Bis Y (fol Y m) λ a b=>a < Y.length/\b=plF Y m a:={
    nam:=by
      rintro a b ⟨ha,rfl⟩ x
      rw [fol_nam hY hr ha]
    forth:=by
      rintro a b ⟨ha,rfl⟩ k hk v hv
      exact ⟨plF Y m v,(fol_row hY hr ha hk _).mpr ⟨v,hv,rfl⟩,rowAt_there hY ha v hv,rfl⟩
    back:=by
      rintro a b ⟨ha,rfl⟩ k hk x hx
      obtain ⟨v,hv,rfl⟩:=(fol_row hY hr ha hk x).mp hx
      exact ⟨v,hv,rowAt_there hY ha v hv,rfl⟩ }
  exact B.sat s ho ⟨hu,rfl⟩
theorem fol_st:∀ (d:Nat) {u v:Nat},u < Y.length->v < Y.length->((stN Y d).getD u 0=(stN Y d).getD v 0↔(stN (fol Y m) d).getD (plF Y m u) 0=(stN (fol Y m) d).getD (plF Y m v) 0)
  | 0,u,v,hu,hv=>by
    have nl:∀ {Z:List Wd} {a:Nat},a < Z.length->a < (Pg.namesOf Z).length:=λ h=>by rw [names_len]; exact h
    have ga:∀ {Z:List Wd} {c:Nat} (hc:c < Z.length),(Pg.namesOf Z)[c]'(nl hc)=(wdAt Z c).1:=λ {Z c} hc=>by
      have e:(Pg.namesOf Z)[c]?=some (wdAt Z c).1:=by unfold Pg.namesOf; rw [List.getElem?_map,wdAt_get hc]; rfl
      rw [List.getElem?_eq_getElem (nl hc)] at e
      exact Option.some.inj e
    have hu':plF Y m u < (fol Y m).length:=by rw [fol_len]; exact (plF_at Y m hu).1
    have hv':plF Y m v < (fol Y m).length:=by rw [fol_len]; exact (plF_at Y m hv).1
    have a1:=fp_eq (nl hu) (nl hv)
    have a2:=fp_eq (nl hu') (nl hv')
    rw [ga hu,ga hv] at a1
    rw [ga hu',ga hv',fol_nam hY hr hu,fol_nam hY hr hv] at a2
    exact a1.trans a2.symm
  | d + 1,u,v,hu,hv=>by
    have nl:∀ {Z:List Wd} {a:Nat},a < Z.length->a < (Pg.namesOf Z).length:=λ h=>by rw [names_len]; exact h
    have hu':plF Y m u < (fol Y m).length:=by rw [fol_len]; exact (plF_at Y m hu).1
    have hv':plF Y m v < (fol Y m).length:=by rw [fol_len]; exact (plF_at Y m hv).1
    have a1:=stP_succ (N:=Pg.namesOf Y) (ch:=rowAt Y) (m:=d) (nl hu) (nl hv)
    have a2:=stP_succ (N:=Pg.namesOf (fol Y m)) (ch:=rowAt (fol Y m)) (m:=d) (nl hu') (nl hv')
    refine a1.trans (Iff.trans ?_ a2.symm)
    refine and_congr (fol_st d hu hv) (forall_congr' λ k=>forall_congr' λ hk=>?_)
    rw [dst_iff,dst_iff]
    refine and_congr ⟨λ h x hx=>?_,λ h w hw=>?_⟩ ⟨λ h x hx=>?_,λ h w hw=>?_⟩
    · obtain ⟨w,hw,rfl⟩:=(fol_row hY hr hu hk x).mp hx
      obtain ⟨z,hz,e⟩:=h w hw
      exact ⟨plF Y m z,(fol_row hY hr hv hk _).mpr ⟨z,hz,rfl⟩,(fol_st d (rowAt_there hY hu w hw) (rowAt_there hY hv z hz)).mp e⟩
    · obtain ⟨x,hx,e⟩:=h (plF Y m w) ((fol_row hY hr hu hk _).mpr ⟨w,hw,rfl⟩)
      obtain ⟨z,hz,rfl⟩:=(fol_row hY hr hv hk x).mp hx
      exact ⟨z,hz,(fol_st d (rowAt_there hY hu w hw) (rowAt_there hY hv z hz)).mpr e⟩
    · obtain ⟨w,hw,rfl⟩:=(fol_row hY hr hv hk x).mp hx
      obtain ⟨z,hz,e⟩:=h w hw
      exact ⟨plF Y m z,(fol_row hY hr hu hk _).mpr ⟨z,hz,rfl⟩,(fol_st d (rowAt_there hY hu z hz) (rowAt_there hY hv w hw)).mp e⟩
    · obtain ⟨x,hx,e⟩:=h (plF Y m w) ((fol_row hY hr hv hk _).mpr ⟨w,hw,rfl⟩)
      obtain ⟨z,hz,rfl⟩:=(fol_row hY hr hu hk x).mp hx
      exact ⟨z,hz,(fol_st d (rowAt_there hY hu z hz) (rowAt_there hY hv w hw)).mpr e⟩
theorem fol_rest {m':Nat} (hr':stN (fol Y m) (m' + 1)=stN (fol Y m) m'):stN Y m'=stN Y m:=by
  have r1:stN Y (m' + 1)=stN Y m':=by
    refine Can.eq (st_can Y _) (st_can Y _) (λ i j hi hj e=>?_) λ i j hi hj e=>?_
    · have:=stP_fin (N:=Pg.namesOf Y) (ch:=rowAt Y) m' i j (by rw [names_len]; exact hi) (by rw [names_len]; exact hj) e
      exact this
    · refine (fol_st hY hr (m' + 1) hi hj).mpr ?_
      rw [hr']
      exact (fol_st hY hr m' hi hj).mp e
  rcases Nat.le_total m m' with h | h
  · obtain ⟨d,rfl⟩:=Nat.exists_eq_add_of_le h
    exact stP_stay (N:=Pg.namesOf Y) (ch:=rowAt Y) hr d
  · obtain ⟨d,rfl⟩:=Nat.exists_eq_add_of_le h
    exact (stP_stay (N:=Pg.namesOf Y) (ch:=rowAt Y) r1 d).symm
theorem fol_like {m':Nat} (hr':stN (fol Y m) (m' + 1)=stN (fol Y m) m'):stN (fol Y m) m'=List.range (fol Y m).length:=by
  have T:=fol_rest hY hr hr'
  have C:=st_can (fol Y m) m'
  have key:∀ a,a < (fol Y m).length->(stN (fol Y m) m').getD a 0=a:=λ a ha=>by
    have hb:(stN (fol Y m) m').getD a 0 < (fol Y m).length:=st_lt (fol Y m) m' ha
    have fx:=C.fix a ha
    obtain ⟨b,eb⟩:∃ b,b=(stN (fol Y m) m').getD a 0:=⟨_,rfl⟩
    rw [<- eb] at fx hb ⊢
    rw [eb] at fx
    have fx:(stN (fol Y m) m').getD b 0=(stN (fol Y m) m').getD a 0:=by rw [eb]; exact fx
    rw [fol_len] at ha hb
    obtain ⟨a1,a2⟩:=plF_kept Y m ha
    obtain ⟨b1,b2⟩:=plF_kept Y m hb
    have e1:=(fol_st hY hr m' b1 a1).mpr (by rw [a2,b2]; exact fx)
    rw [T] at e1
    rw [((mem_kpt Y m).mp (kept_at ha)).2,((mem_kpt Y m).mp (kept_at hb)).2] at e1
    rw [<- a2,<- b2,e1]
  apply List.ext_getElem
  · rw [stN_len,List.length_range]
  · intro i h1 h2
    rw [stN_len] at h1
    have:=key i h1
    rw [List.getD_eq_getElem?_getD,List.getElem?_eq_getElem (by rw [stN_len]; exact h1)] at this
    rw [List.getElem_range]
    exact this
theorem fol_fol {m':Nat} (hr':stN (fol Y m) (m' + 1)=stN (fol Y m) m'):fol (fol Y m) m'=fol Y m:=by
  have T:=fol_like hY hr hr'
  have hF:YOk (fol Y m):=fol_ok hY
  generalize fol Y m=F at *
  have ek:kpt F m'=List.range F.length:=by unfold kpt; rw [T]; exact srtN_self List.pairwise_lt_range
  have ep:∀ v,v < F.length->plO F m' v=some v:=λ v hv=>by
    unfold plO
    rw [if_pos hv]
    have h:=plF_at F m' hv
    rw [ek,T] at h
    have g:∀ x,x < F.length->(List.range F.length).getD x 0=x:=λ x hx=>by rw [List.getD_eq_getElem?_getD,List.getElem?_range hx]; rfl
    rw [List.length_range] at h
    rw [g _ h.1,g _ hv] at h
    rw [h.2]
  unfold fol movY
  rw [ek]
  apply List.ext_getElem
  · simp
  · intro i h1 h2
    have hi:i < F.length:=h2
    rw [List.getElem_map,List.getElem_range]
    unfold movW
    rw [wdAt_eq hi]
    have er:(F[i]).2.map (λ r=>srtN (r.filterMap (plO F m')))=(F[i]).2:=by
      conv=>rhs; rw [<- List.map_id (F[i]).2]
      refine List.map_congr_left λ r hr=>?_
      have ht:=hF.there _ (List.getElem_mem hi) r hr
      have:r.filterMap (plO F m')=r:=by
        have:∀ q:List Nat,(∀ v∈q,v < F.length)->q.filterMap (plO F m')=q:=by
          intro q
          induction q with
          | nil=>intro _; rfl
          | cons a q ih =>
            intro h
            rw [List.filterMap_cons,ep a (h a List.mem_cons_self),ih λ v hv=>h v (List.mem_cons_of_mem _ hv)]
        exact this r ht
      rw [this]
      exact srtN_self (hF.rise _ (List.getElem_mem hi) r hr)
    rw [er]
end
end Wl


namespace Pg
open PySem PySem.Spec PyProof.Rows L2 Wy Wl Lw
theorem ixOf_natF:∀ (S:List Nat) (v:Nat),ixOf (iN v) (S.map iN)=idxO S v
  | [],v=>rfl
  | a::S,v=>by
    have ih:=ixOf_natF S v
    unfold idxO at ih ⊢
    rw [List.map_cons,List.findIdx?_cons]
    unfold ixOf
    rw [ih]
    by_cases q:a=v
    · subst q; simp
    · have:¬ (a:Int)=(v:Int):=by omega
      simp [q,this]
theorem ix_natF {S:List Nat} {v p:Nat} (h:idxO S v=some p):indexS (false,S.map iN) (iN v)=some (iN p):=by
  rw [indexS_eq (Nat.le_trans (depDL_le (n:=0) λ d hd=>by
    obtain ⟨u,_,rfl⟩:=List.mem_map.mp hd
    simp) (by omega)),ixOf_natF,h]
  rfl
def pairsF (Y:List Wd) (m:Nat):List (D×D):=(List.range Y.length).map λ i=>(iN i,iN (plF Y m i))
theorem kIx_pairsF (Y:List Wd) (m v:Nat):kIx (iN v) (pairsF Y m)=if v < Y.length then some v else none:=by
  have e:kIx (iN v) (pairsF Y m)=(List.range Y.length).findIdx? λ x=>decide (x=v):=by
    unfold kIx pairsF
    rw [List.findIdx?_map]
    congr 1
    funext x
    simp only [Function.comp,eqDD_int]
    rw [decide_eq_decide]
    omega
  rw [e]
  by_cases h:v < Y.length
  · rw [if_pos h]
    refine List.findIdx?_eq_some_iff_getElem.mpr ⟨by simpa using h,by simp,λ j hj=>?_⟩
    simp
    omega
  · rw [if_neg h]
    refine List.findIdx?_eq_none_iff.mpr λ x hx=>?_
    have:=List.mem_range.mp hx
    simp
    omega
theorem pl_pairsF (Y:List Wd) (m:Nat):Pl (pairsF Y m) (plO Y m) where
  at_:=λ v=>by
    have e:=kIx_pairsF Y m v
    refine ⟨?_,?_⟩
    · rw [e]; unfold plO; split <;> rfl
    · rw [e]
      unfold plO
      split
      · rename_i h
        simp [pairsF,h]
      · rfl
theorem mk_pairsF (Y:List Wd) (m:Nat):mkK (pairsF Y m)=pairsF Y m:=by
  refine mkK_new ?_ λ p hp=>?_
  · unfold pairsF
    rw [List.map_map]
    unfold List.Nodup
    rw [List.pairwise_map]
    exact List.nodup_range.imp λ hab e=>hab (iN_inj e)
  · obtain ⟨i,_,rfl⟩:=List.mem_map.mp hp
    exact hk_int _
theorem kpt_len {Y:List Wd} {m:Nat}:(kpt Y m).length<=Y.length:=by
  have:=nodup_lt_len _ _ (kpt_nd Y m) λ x hx=>((mem_kpt Y m).mp hx).1
  exact this
theorem m_q14 {Y:List Wd} (hY:YOk Y) (hl:Y.length < 64):∃ m,m < Y.length/\stN Y (m + 1)=stN Y m/\M_q10 [dYd Y]=.ok (dRow (stN Y m))/\M_q14 [dYd Y]=.ok (dYd (fol Y m)):=by
  obtain ⟨m,h1,h2,el⟩:=m_q10 hY hl
  refine ⟨m,h1,h2,el,?_⟩
  refine parW_is λ w=>?_
  have ss:sortSetD ((stN Y m).map iN)=some ((kpt Y m).map iN):=sortSet_nat (stN Y m) (by rw [stN_len]; exact hl)
  have en:enumD (dRow (stN Y m))=some ((List.range Y.length).map λ i=>D.tup [iN i,iN ((stN Y m).getD i 0)]):=by
    unfold dRow
    rw [enumD_tup]
    congr 1
    unfold enumL
    rw [List.length_map,stN_len]
    refine List.map_congr_left λ i hi=>?_
    have hi':i < (stN Y m).length:=by rw [stN_len]; exact List.mem_range.mp hi
    simp [List.getD_eq_getElem?_getD,hi']
  have c:cpR2 (iE (eV 1)) cTrue (eTup (aCons (eV 0) (aCons (eIndex (sV 5) (eV 1)) aNil))) [.val (dYd Y),.val (dRow (stN Y m)),.val (.lst ((kpt Y m).map iN)),.un]=.ok ((pairsF Y m).map λ p=>D.tup [p.1,p.2]):=by
    have:=cp2_of (it:=iE (eV 1)) (f:=eTup (aCons (eV 0) (aCons (eIndex (sV 5) (eV 1)) aNil))) (Γ:=[.val (dYd Y),.val (dRow (stN Y m)),.val (.lst ((kpt Y m).map iN)),.un]) (l:=List.range Y.length) (g1:=iN) (g2:=λ i=>iN ((stN Y m).getD i 0)) (h:=λ i=>D.tup [iN i,iN (plF Y m i)]) (by
        generalize ((List.range Y.length).map λ i=>D.tup [iN i,iN ((stN Y m).getD i 0)])=es at *
        generalize stN Y m=T at *
        simp [en]) (by simp; omega) (by
      intro i hi
      have ix:=ix_natF (plF_some Y m (List.mem_range.mp hi))
      generalize (stN Y m).getD i 0=u at *
      generalize (kpt Y m).map iN=zs at *
      simp [ix])
    rw [this]
    unfold pairsF
    rw [List.map_map]
    rfl
  have e1:pairsD ((pairsF Y m).map λ p=>D.tup [p.1,p.2])=some (pairsF Y m):=by
    unfold pairsD
    rw [unPs_map]
    show (if _ then _ else _)=_
    rw [if_pos ⟨List.all_eq_true.mpr λ p hp=>by
      obtain ⟨i,_,rfl⟩:=List.mem_map.mp hp
      exact hk_int _,by unfold pairsF; simp; omega⟩,mk_pairsF]
  have e2:oDpairs (sO (cpR2 (iE (eV 1)) cTrue (eTup (aCons (eV 0) (aCons (eIndex (sV 5) (eV 1)) aNil))))) [.val (dYd Y),.val (dRow (stN Y m)),.val (.lst ((kpt Y m).map iN)),.un]=.ok (pairsF Y m):=by
    unfold oDpairs
    rw [sO_eq,c]
    show R.ofO (pairsD _)=_
    rw [e1]
    rfl
  have e3:=m_q15 hY hl (pl_pairsF Y m) (kept:=kpt Y m) (λ n hn=>((mem_kpt Y m).mp hn).1) (by have:=kpt_len (Y:=Y) (m:=m); omega)
  rw [show movY Y (plO Y m) (kpt Y m)=fol Y m from rfl] at e3
  have sq:∀ Γ:Ga,sV 0 (.val (dRow (stN Y m))::Γ)=.ok (true,(stN Y m).map iN):=λ Γ=>rfl
  generalize (kpt Y m).map iN=ks at *
  generalize (stN Y m).map iN=ts at *
  generalize stN Y m=T at *
  simp [-cpR_eq,B_q14,begin_,el,sq,ss,e2,e3]
end Pg


namespace L11
open PySem PySem.Spec PyProof.Rows L2 Wy Wl Lw Pg
theorem dep_row (r:List Nat):depD (dRow r)<=1:=by
  have:depDL (r.map λ (n:Nat)=>D.int (n:Int))<=0:=depDL_le λ d hd=>by
    obtain ⟨x,_,rfl⟩:=List.mem_map.mp hd
    simp
  unfold dRow depD
  omega
theorem dep_wd (w:Wd):depD (dWd w)<=3:=by
  have leaf1:depD (dNames w.1)<=1:=by
    have:depDL (w.1.map D.str)<=0:=depDL_le λ d hd=>by
      obtain ⟨x,_,rfl⟩:=List.mem_map.mp hd
      simp
    unfold dNames depD
    omega
  have ways:depD (dWays w.2)<=2:=by
    have:depDL (w.2.map dRow)<=1:=depDL_le λ d hd=>by
      obtain ⟨x,_,rfl⟩:=List.mem_map.mp hd
      exact dep_row x
    unfold dWays depD
    omega
  have:depDL [dNames w.1,dWays w.2]<=2:=depDL_le λ d hd=>by
    simp only [List.mem_cons,List.not_mem_nil,or_false] at hd
    rcases hd with rfl | rfl
    · omega
    · exact ways
  unfold dWd depD
  omega
theorem ne_of_dep {d:D} (h:depD d<=100):neD d d=some (.bl false):=by
  rw [neD_of h,eqDD_refl]
  rfl
theorem dep_yd (Y:List Wd):depD (dYd Y)<=4:=by
  have:depDL (Y.map dWd)<=3:=depDL_le λ d hd=>by
    obtain ⟨x,_,rfl⟩:=List.mem_map.mp hd
    exact dep_wd x
  unfold dYd depD
  omega
theorem mem_row {v:Nat} {r:List Nat} (h:v∈r):memA (iN v) (dRow r)=some (.bl true):=by
  unfold dRow
  rw [memA_tup (Nat.le_trans (depDL_le (n:=0) λ d hd=>by
    obtain ⟨u,_,rfl⟩:=List.mem_map.mp hd
    simp) (by omega))]
  congr 2
  rw [List.any_eq_true]
  exact ⟨iN v,List.mem_map.mpr ⟨v,h,rfl⟩,by simp⟩
theorem own_row (ns:List Int) (k:Nat) {w j:Nat} (hw:w < (lawYd ns k 1).length) (hj:j < 3):w∈rowAt (lawYd ns k 1) w j:=by
  rw [lawYd_len] at hw
  unfold rowAt wdAt lawYd
  rw [List.getD_eq_getElem?_getD,List.getD_eq_getElem?_getD,List.getElem?_map,List.getElem?_range hw]
  show w∈((lawWd ns k 1 w).2[j]?).getD []
  unfold lawWd
  rw [List.getElem?_map,List.getElem?_range hj]
  show w∈yRow ns k 1 w j
  unfold yRow
  rw [List.mem_filter]
  exact ⟨List.mem_range.mpr hw,by simp⟩
section
variable {Y:List Wd} (hY:YOk Y) (hl:Y.length < 64) {m:Nat} (hr:stN Y (m + 1)=stN Y m)
theorem st_ix {v:Nat} (hv:v < Y.length):ixD (dRow (stN Y m)) (iN v)=some (iN ((stN Y m).getD v 0)):=by
  have hk':v < (stN Y m).length:=by rw [stN_len]; exact hv
  have:atI ((stN Y m).map iN) (v:Int)=some (iN ((stN Y m).getD v 0)):=atI_nat (by simp [List.getD_eq_getElem?_getD,hk'])
  exact this
theorem pl_all {r:List Nat} (h:∀ v∈r,v < Y.length):r.filterMap (plO Y m)=r.map (plF Y m):=by
  induction r with
  | nil=>rfl
  | cons a r ih =>
    have e:plO Y m a=some (plF Y m a):=by unfold plO; rw [if_pos (h a List.mem_cons_self)]
    rw [List.filterMap_cons,e,List.map_cons,ih λ v hv=>h v (List.mem_cons_of_mem _ hv)]
include hY hl
theorem world_one (ns:List Int) {own:Int} (ho:own=1->∀ w j,w < Y.length->j < 3->w∈rowAt Y w j) {k n:Nat} (hn:n < Y.length) (hk:k < (fol Y m).length) (hp:plF Y m n=k) (hf:wdAt (fol Y m) k=movW Y (plO Y m) n) (x8 x9 x10:Sl) :
    ∃ y8,L_law_1 [.val (dLs ns),.val (.int own),.val (dYd Y),.val (dYd (fol Y m)),.val (dRow (stN Y m)),.val (.lst ((kpt Y m).map iN)),.val (iN k),.val (iN n),x8,x9,x10] =
    .nx [.val (dLs ns),.val (.int own),.val (dYd Y),.val (dYd (fol Y m)),.val (dRow (stN Y m)),.val (.lst ((kpt Y m).map iN)),.val (iN k),.val (iN n),y8,x9,x10]:=by
  have y1:=yd_ix hn
  have yf:=yd_ix hk
  have i0:ixD (dWd (wdAt Y n)) (.int 0)=some (dNames (wdAt Y n).1):=rfl
  have i1:ixD (dWd (wdAt Y n)) (.int 1)=some (dWays (wdAt Y n).2):=rfl
  have a1:asT (dWays (wdAt Y n).2)=some ((wdAt Y n).2.map dRow):=rfl
  have h3:=hY.three _ (wdAt_mem hn)
  have ht:∀ r∈(wdAt Y n).2,∀ v∈r,v < Y.length:=λ r hr=>hY.there _ (wdAt_mem hn) r hr
  have c1:cpR (iT (e2 ixD (e2 ixD (eV 2) (eV 7)) (eC (.int 1)))) cTrue (eS tupS (sO (oSortSet (sO (cpR (iT (eV 0)) cTrue (eIndex (sV 9) (e2 ixD (eV 8) (eV 0)))))))) [.val (dLs ns),.val (.int own),.val (dYd Y),.val (dYd (fol Y m)),.val (dRow (stN Y m)),.val (.lst ((kpt Y m).map iN)),.val (iN k),.val (iN n),x8,x9,x10] =
      .ok ((wdAt Y n).2.map λ r=>dRow (srtN (r.filterMap (plO Y m)))):=by
    refine cp_of (l:=(wdAt Y n).2) (g:=dRow) ?_ (by omega) ?_
    · generalize stN Y m=T
      generalize (kpt Y m).map iN=ks
      simp [y1,i1,a1]
    · intro r hr
      have hm:=ht r hr
      have hrl:r.length<=Y.length:=nodup_lt_len _ _ (rise_nodup (hY.rise _ (wdAt_mem hn) r hr)) hm
      have c2:cpR (iT (eV 0)) cTrue (eIndex (sV 9) (e2 ixD (eV 8) (eV 0))) (.val (dRow r)::.un::[.val (dLs ns),.val (.int own),.val (dYd Y),.val (dYd (fol Y m)),.val (dRow (stN Y m)),.val (.lst ((kpt Y m).map iN)),.val (iN k),.val (iN n),x8,x9,x10])=.ok (r.map λ v=>iN (plF Y m v)):=by
        refine cp_of (l:=r) (g:=iN) ?_ (by omega) ?_
        · generalize stN Y m=T
          generalize (kpt Y m).map iN=ks
          simp [dRow]
        · intro v hv
          have e1:=st_ix (m:=m) (hm v hv)
          have e2:=ix_natF (plF_some Y m (hm v hv))
          generalize (stN Y m).getD v 0=u at *
          generalize stN Y m=T at *
          generalize (kpt Y m).map iN=ks at *
          simp [e1,e2]
      rw [show (r.map λ v=>iN (plF Y m v))=(r.map (plF Y m)).map iN by rw [List.map_map]; rfl] at c2
      have st:=sortSet_nat (r.map (plF Y m)) (by rw [List.length_map]; omega)
      rw [pl_all hm]
      generalize r.map (plF Y m)=zs at *
      generalize stN Y m=T at *
      generalize (kpt Y m).map iN=ks at *
      simp [-cpR_eq,c2,st]
      rfl
  have em:D.tup [dNames (wdAt Y n).1,.tup ((wdAt Y n).2.map λ r=>dRow (srtN (r.filterMap (plO Y m))))]=dWd (wdAt (fol Y m) k):=by
    rw [hf]
    unfold movW dWd dWays
    rw [List.map_map]
    rfl
  have ne:=ne_of_dep (d:=dWd (wdAt (fol Y m) k)) (by have:=dep_wd (wdAt (fol Y m) k); omega)
  have j1:ixD (dWd (wdAt (fol Y m) k)) (.int 1)=some (dWays (wdAt (fol Y m) k).2):=rfl
  have b1:asT (dWays (wdAt (fol Y m) k).2)=some ((wdAt (fol Y m) k).2.map dRow):=rfl
  have l3:(wdAt (fol Y m) k).2.length=3:=by rw [hf]; unfold movW; simp [h3]
  have all:own=1->∀ s8:Sl,eS allS (sO (cpR (iT (e2 ixD (e2 ixD (eV 3) (eV 6)) (eC (.int 1)))) cTrue (e2 memA (eV 8) (eV 0)))) [.val (dLs ns),.val (.int own),.val (dYd Y),.val (dYd (fol Y m)),.val (dRow (stN Y m)),.val (.lst ((kpt Y m).map iN)),.val (iN k),.val (iN n),s8,x9,x10]=.ok (.bl true):=λ hw s8=>by
    rw [all_cp (ds:=(wdAt (fol Y m) k).2.map dRow) (p:=λ _=>true)]
    · simp
    · generalize stN Y m=T
      generalize (kpt Y m).map iN=ks
      simp [yf,j1,b1]
    · rw [List.length_map,l3]; omega
    · intro d hd
      obtain ⟨r,hr,rfl⟩:=List.mem_map.mp hd
      have hkr:k∈r:=by
        rw [hf] at hr
        obtain ⟨q,hq,rfl⟩:=List.mem_map.mp hr
        rw [mem_srtN,pl_all (ht q hq)]
        refine List.mem_map.mpr ⟨n,?_,hp⟩
        obtain ⟨j,hj,rfl⟩:=List.mem_iff_getElem.mp hq
        have:=ho hw n j hn (by omega)
        unfold rowAt at this
        rw [List.getD_eq_getElem?_getD,List.getElem?_eq_getElem hj] at this
        exact this
      have e:=mem_row hkr
      generalize stN Y m=T
      generalize (kpt Y m).map iN=ks
      simp [e]
  refine ⟨.val (.lst ((wdAt Y n).2.map λ r=>dRow (srtN (r.filterMap (plO Y m))))),?_⟩
  generalize hz:((wdAt Y n).2.map λ r=>dRow (srtN (r.filterMap (plO Y m))))=zs at *
  have all':=all
  by_cases hw:own=1
  · have al:=all hw (.val (.lst zs))
    subst hw
    rw [<- em] at ne
    generalize stN Y m=T at *
    generalize (kpt Y m).map iN=ks at *
    simp [-cpR_eq,-eS_eq,L_law_1,c1,y1,yf,i0,<- em,ne,al,eS_eq (M:=tupS)]
  · rw [<- em] at ne
    generalize stN Y m=T at *
    generalize (kpt Y m).map iN=ks at *
    simp [-cpR_eq,L_law_1,c1,y1,yf,i0,<- em,ne,hw]
include hr
theorem holds_one (ns:List Int) (own:Int) (s:Say) (hos:okS s=true) (hd:depS s<=4) (x7 x8 x9:Sl) {k:Nat} (hk:k < Y.length):L_law_3 (M_q4 6) [.val (dLs ns),.val (.int own),.val (dYd Y),.val (dYd (fol Y m)),.val (dRow (stN Y m)),.val (.lst ((kpt Y m).map iN)),.val (iN k),x7,x8,x9,.val (dS s)] =
    .nx [.val (dLs ns),.val (.int own),.val (dYd Y),.val (dYd (fol Y m)),.val (dRow (stN Y m)),.val (.lst ((kpt Y m).map iN)),.val (iN k),x7,x8,x9,.val (dS s)]:=by
  have e1:=m_holds hY 6 s k (by omega) hos hk
  have e3:=m_holds (fol_ok (m:=m) hY) 6 s (plF Y m k) (by omega) hos (by rw [fol_len]; exact (plF_at Y m hk).1)
  rw [<- fol_sat hY hr s hos hk] at e3
  have ip:=st_ix (m:=m) hk
  have ix:=ix_natF (plF_some Y m hk)
  generalize (stN Y m).getD k 0=u at *
  generalize stN Y m=T at *
  generalize (kpt Y m).map iN=ks at *
  generalize plF Y m k=q at *
  simp [L_law_3,e1,e3,ip,ix]
theorem saying_one (ns:List Int) (own:Int) (c:Int) (x6 x7 x8 x10:Sl):∃ y6 y10,L_law_2 (M_q2 6) (M_q4 6) [.val (dLs ns),.val (.int own),.val (dYd Y),.val (dYd (fol Y m)),.val (dRow (stN Y m)),.val (.lst ((kpt Y m).map iN)),x6,x7,x8,.val (.int c),x10] =
    .nx [.val (dLs ns),.val (.int own),.val (dYd Y),.val (dYd (fol Y m)),.val (dRow (stN Y m)),.val (.lst ((kpt Y m).map iN)),y6,x7,x8,.val (.int c),y10]:=by
  obtain ⟨ho,hd⟩:=lawS_ok 4 c
  have eS:M_q2 6 [.int c,.int 4]=.ok (dS (lawS 4 c)):=m_saying 6 4 c (by decide)
  generalize lawS 4 c=s at *
  have eY:=yd_len Y
  have rY:rng1 [.int (Y.length:Int)]=some ((List.range Y.length).map iN):=rng1_nat (by omega)
  obtain ⟨Γ1,h1,x6',rfl⟩:=turns_keep (g:=gName' 6) (T:=L_law_3 (M_q4 6)) (λ Γ=>∃ x6,Γ=[.val (dLs ns),.val (.int own),.val (dYd Y),.val (dYd (fol Y m)),.val (dRow (stN Y m)),.val (.lst ((kpt Y m).map iN)),x6,x7,x8,.val (.int c),.val (dS s)])
    ((List.range Y.length).map iN) [.val (dLs ns),.val (.int own),.val (dYd Y),.val (dYd (fol Y m)),.val (dRow (stN Y m)),.val (.lst ((kpt Y m).map iN)),x6,x7,x8,.val (.int c),.val (dS s)] (by
      rintro d Γ hm ⟨x6,rfl⟩
      obtain ⟨k,hk,rfl⟩:=List.mem_map.mp hm
      exact ⟨_,_,rfl,.inl (holds_one hY hl hr ns own s ho hd x7 x8 _ (List.mem_range.mp hk)),_,rfl⟩) ⟨_,rfl⟩
  refine ⟨x6',.val (dS s),?_⟩
  generalize stN Y m=T at *
  generalize (kpt Y m).map iN=ks at *
  simp [L_law_2,eS,eY,rY,h1]
end
theorem law_ok (ns:List Int) (hn:ns.length<=63):callR N_law (B_law M_q7 M_q9 M_q14 M_q10 M_q1 (M_q2 6) (M_q4 6)) [.lst (ns.map D.int)]=.ok (.bl true):=by
  have e8:M_q7 [dLs ns,.int 8]=.ok (.int (cellI ns 8)):=m_cell ns 8
  have ey:M_q9 [dLs ns,.int 0,.int (cellI ns 8 % 2)]=.ok (dYd (lawYd ns 0 (cellI ns 8 % 2))):=m_yard ns 0 _
  have hY:=lawYd_ok ns 0 (cellI ns 8 % 2)
  have hl5:(lawYd ns 0 (cellI ns 8 % 2)).length<=5:=by rw [lawYd_len]; exact (yCount_le ns 0).2
  have ho:cellI ns 8 % 2=1->∀ w j,w < (lawYd ns 0 (cellI ns 8 % 2)).length->j < 3->w∈rowAt (lawYd ns 0 (cellI ns 8 % 2)) w j:=λ h w j hw hj=>by
    rw [h] at hw ⊢
    exact own_row ns 0 hw hj
  generalize lawYd ns 0 (cellI ns 8 % 2)=Y at *
  have hl:Y.length < 64:=by omega
  obtain ⟨m,hm,hrest,el,ef⟩:=m_q14 hY hl
  have hF:YOk (fol Y m):=fol_ok hY
  have hkl:=kpt_len (Y:=Y) (m:=m)
  have hFl:(fol Y m).length < 64:=by rw [fol_len]; omega
  obtain ⟨m',hm',hr',el',ef'⟩:=m_q14 hF hFl
  rw [fol_like hY hrest hr'] at el'
  rw [fol_fol hY hrest hr'] at ef'
  have iy:=m_isyard hF hFl
  have eY:=yd_len Y
  have eF:=yd_len (fol Y m)
  have rY:rng1 [.int (Y.length:Int)]=some ((List.range Y.length).map iN):=rng1_nat (by omega)
  have ck:∀ Γ:Ga,cpR (iR1 (aCons (eB lenD (aCons (eV 2) aNil)) aNil)) (tB (e2 eqD (e2 ixD (eV 6) (eV 0)) (eV 0))) (eV 0) (.val (dLs ns)::.val (.int (cellI ns 8 % 2))::.val (dYd Y)::.val (dYd (fol Y m))::.val (dRow (stN Y m))::Γ)=.ok ((kpt Y m).map iN):=λ Γ=>by
    have:=cp_filter (it:=iR1 (aCons (eB lenD (aCons (eV 2) aNil)) aNil)) (c:=tB (e2 eqD (e2 ixD (eV 6) (eV 0)) (eV 0))) (f:=eV 0) (Γ:=.val (dLs ns)::.val (.int (cellI ns 8 % 2))::.val (dYd Y)::.val (dYd (fol Y m))::.val (dRow (stN Y m))::Γ) (l:=List.range Y.length) (g:=iN) (h:=iN) (p:=λ v=>decide ((stN Y m).getD v 0=v)) ?_ (by simp; omega) ?_ ?_
    · rw [this]
      refine congrArg R.ok (congrArg (List.map iN) ?_)
      refine rise_ext (List.Pairwise.filter _ List.pairwise_lt_range) (srtN_rise _) λ x=>?_
      rw [List.mem_filter,List.mem_range,decide_eq_true_iff]
      exact (mem_kpt Y m).symm
    · generalize stN Y m=T
      simp [eY,rY]
    · intro v hv
      have ip:=st_ix (m:=m) (List.mem_range.mp hv)
      generalize (stN Y m).getD v 0=u at *
      generalize stN Y m=T at *
      simp [ip]
      omega
    · intro v hv _
      rfl
  have ne1:neD (.int ((fol Y m).length:Int)) (.int ((kpt Y m).length:Int))=some (.bl false):=by
    rw [fol_len]
    simp
  have en:enumD (.lst ((kpt Y m).map iN))=some ((List.range (kpt Y m).length).map λ i=>D.tup [iN i,iN ((kpt Y m).getD i 0)]):=by
    rw [enumD_lst,enum_nat]
  obtain ⟨Γ1,t1,x6,x7,x8,rfl⟩:=turns_keep (g:=gTwo (gName' 6) (gName' 7)) (T:=L_law_1) (λ Γ=>∃ x6 x7 x8,Γ=[.val (dLs ns),.val (.int (cellI ns 8 % 2)),.val (dYd Y),.val (dYd (fol Y m)),.val (dRow (stN Y m)),.val (.lst ((kpt Y m).map iN)),x6,x7,x8,.un,.un])
    ((List.range (kpt Y m).length).map λ i=>D.tup [iN i,iN ((kpt Y m).getD i 0)]) [.val (dLs ns),.val (.int (cellI ns 8 % 2)),.val (dYd Y),.val (dYd (fol Y m)),.val (dRow (stN Y m)),.val (.lst ((kpt Y m).map iN)),.un,.un,.un,.un,.un] (by
      rintro d Γ hd ⟨x6,x7,x8,rfl⟩
      obtain ⟨k,hk,rfl⟩:=List.mem_map.mp hd
      have hk':=List.mem_range.mp hk
      obtain ⟨h1,h2⟩:=plF_kept Y m hk'
      obtain ⟨y8,e⟩:=world_one hY hl (m:=m) ns ho (n:=(kpt Y m).getD k 0) h1 (by rw [fol_len]; exact hk') h2 (wdAt_movY hk') x8 .un .un
      exact ⟨_,_,rfl,.inl e,_,_,_,rfl⟩) ⟨_,_,_,rfl⟩
  have ne2:=ne_of_dep (d:=dYd (fol Y m)) (by have:=dep_yd (fol Y m); omega)
  have rg:rngD (.int ((fol Y m).length:Int))=some ((List.range (fol Y m).length).map iN):=by
    unfold rngD
    dsimp only
    rw [if_pos ⟨by omega,by omega⟩]
    unfold rngL
    rw [Int.toNat_natCast,List.map_map]
    rfl
  have ne3:=ne_of_dep (d:=dRow (List.range (fol Y m).length)) (by have:=dep_row (List.range (fol Y m).length); omega)
  have tu:tupS (false,(List.range (fol Y m).length).map iN)=some (dRow (List.range (fol Y m).length)):=rfl
  have sl':eO (oSl (sV 0) (oI (eC (.int 9))) (oI (eC (.int 14)))) [.val (dLs ns),.val (.int (cellI ns 8 % 2)),.val (dYd Y),.val (dYd (fol Y m)),.val (dRow (stN Y m)),.val (.lst ((kpt Y m).map iN)),x6,x7,x8,.un,.un]=.ok (.lst (cut (ns.map D.int) (some 9) (some 14))):=by
    generalize stN Y m=T
    generalize (kpt Y m).map iN=ks
    simp [dLs]
  obtain ⟨Γ',t2,y6,y9,y10,rfl⟩:=turns_keep (g:=gName' 9) (T:=L_law_2 (M_q2 6) (M_q4 6)) (λ Γ=>∃ x6 x9 x10,Γ=[.val (dLs ns),.val (.int (cellI ns 8 % 2)),.val (dYd Y),.val (dYd (fol Y m)),.val (dRow (stN Y m)),.val (.lst ((kpt Y m).map iN)),x6,x7,x8,x9,x10])
    (cut (ns.map D.int) (some 9) (some 14)) [.val (dLs ns),.val (.int (cellI ns 8 % 2)),.val (dYd Y),.val (dYd (fol Y m)),.val (dRow (stN Y m)),.val (.lst ((kpt Y m).map iN)),x6,x7,x8,.un,.un] (by
      rintro d Γ hd ⟨x6,x9,x10,rfl⟩
      obtain ⟨c,rfl⟩:=cut_int hd
      obtain ⟨y6,y10,e⟩:=saying_one hY hl hrest ns (cellI ns 8 % 2) c x6 x7 x8 x10
      exact ⟨_,_,rfl,.inl e,_,_,_,rfl⟩) ⟨_,_,_,rfl⟩
  rw [show D.lst (ns.map D.int)=dLs ns from rfl]
  have ck':∀ Γ:Ga,eO (cpR (iR1 (aCons (eB lenD (aCons (eV 2) aNil)) aNil)) (tB (e2 eqD (e2 ixD (eV 6) (eV 0)) (eV 0))) (eV 0)) (.val (dLs ns)::.val (.int (cellI ns 8 % 2))::.val (dYd Y)::.val (dYd (fol Y m))::.val (dRow (stN Y m))::Γ)=.ok (.lst ((kpt Y m).map iN)):=λ Γ=>by
    unfold eO
    rw [ck]
    rfl
  have lk:lenD [.lst ((kpt Y m).map iN)]=some (.int ((kpt Y m).length:Int)):=by
    rw [lenD_lst,List.length_map]
  generalize ((List.range (kpt Y m).length).map λ i=>D.tup [iN i,iN ((kpt Y m).getD i 0)])=es at *
  generalize (kpt Y m).map iN=ks at *
  generalize (kpt Y m).length=kl at *
  generalize (List.range (fol Y m).length).map iN=rs at *
  generalize stN Y m=T at *
  simp [-cpR_eq,-oSl_eq,-eO_eq,B_law,begin_,e8,ey,el,ef,ck',iy,eF,lk,ne1,en,t1,ef',el',ne2,rg,tu,ne3,sl',t2]
end L11

namespace K11
open PySem PySem.Spec PyProof.Rows L2 Wy Wl Lw Pg L11
def top (i:Nat):Stmt:=PySem.Challenge.pw_worldyard_k11_whole_folded.main.body.getD i (.Pass ⟨0,0,0,0⟩)
abbrev s_q7:Stmt:=top 14
abbrev ps_q7:List Str:=["_law_script","_law_k"]
theorem sc_q7:FnScope N_q7 ps_q7 (defScope s_q7):=⟨rfl,rfl,rfl,by decide +kernel,rfl,by decide +kernel,by decide +kernel⟩
theorem ok_q7 {P:Program} {w:World} {K:PySem.W.Frag} {mg:Str->Option Value} {base:Heap} {k:Nat} {a:Addr} {fd:FuncData} (Df:Def K mg "_law_cell" s_q7 ps_q7 a fd)
    (m_len:mg "len"=none)
   :FnOk P w K mg base (CX1 P w) (k + 1) a fd ps_q7 (spF K mg ps_q7.length λ ds=>callR N_q7 (B_q7) ds) :=
  fn_R1 Df.fn sc_q7 λ cdv A outer s H W E hr=>(xs_cons (x_if (tv_cmp opd_lt (ev_var 1) (ev_callB calld_len rfl m_len PySem.boot_len (av_cons (ev_var 0) av_nil))) (xs_one (x_ret (ev_ix (ev_var 0) (ev_var 1)))) xs_nil) (xs_one (x_ret ev_int)))
abbrev s_q11:Stmt:=top 15
abbrev ps_q11:List Str:=["_law_cell_here","_law_prime","_law_many"]
theorem sc_q11:FnScope N_q11 ps_q11 (defScope s_q11):=⟨rfl,rfl,rfl,by decide +kernel,rfl,by decide +kernel,by decide +kernel⟩
theorem ok_q11 {P:Program} {w:World} {K:PySem.W.Frag} {mg:Str->Option Value} {base:Heap} {k:Nat} {a:Addr} {fd:FuncData} (Df:Def K mg "_law_mix" s_q11 ps_q11 a fd)
   :FnOk P w K mg base (CX1 P w) (k + 1) a fd ps_q11 (spF K mg ps_q11.length λ ds=>callR N_q11 (B_q11) ds) :=
  fn_R1 Df.fn sc_q11 λ cdv A outer s H W E hr=>(xs_one (x_ret (ev_op opd_mod (ev_op opd_mod (ev_op opd_mul (ev_var 0) ev_int) (ev_var 1)) (ev_var 2))))
abbrev s_q9:Stmt:=top 17
abbrev ps_q9:List Str:=["_law_script","_law_k","_law_own"]
theorem sc_q9:FnScope N_q9 ps_q9 (defScope s_q9):=⟨rfl,rfl,rfl,by decide +kernel,rfl,by decide +kernel,by decide +kernel⟩
theorem ok_q9 {P:Program} {w:World} {K:PySem.W.Frag} {mg:Str->Option Value} {base:Heap} {k:Nat} {a:Addr} {fd:FuncData} (Df:Def K mg "_law_yard" s_q9 ps_q9 a fd)
    {M_q7:List D->R D} {a_q7:Addr} {fd_q7:FuncData} (D_q7:Def K mg "_law_cell" s_q7 ps_q7 a_q7 fd_q7) (F_q7:FnOk P w K mg base (CX1 P w) k a_q7 fd_q7 ps_q7 (spF K mg ps_q7.length M_q7))
    {M_q11:List D->R D} {a_q11:Addr} {fd_q11:FuncData} (D_q11:Def K mg "_law_mix" s_q11 ps_q11 a_q11 fd_q11) (F_q11:FnOk P w K mg base (CX1 P w) k a_q11 fd_q11 ps_q11 (spF K mg ps_q11.length M_q11))
    (m_range:mg "range"=none)
    (m_enumerate:mg "enumerate"=none)
    (m_tuple:mg "tuple"=none)
   :FnOk P w K mg base (CX1 P w) (k + 1) a fd ps_q9 (spF K mg ps_q9.length λ ds=>callR N_q9 (B_q9 M_q7 M_q11) ds) :=
  fn_R1 Df.fn sc_q9 λ cdv A outer s H W E hr=>(xs_cons (x_set 3 (ev_op opd_addD ev_int (ev_op opd_mod (ev_call F_q7 (pw1 ⟨rfl,rfl,rfl⟩) hr rfl D_q7.mg D_q7.fn.kp D_q7.bd (av_cons (ev_var 0) (av_cons (ev_var 1) av_nil))) ev_int)) sc_q9.nd) (xs_cons (x_setO 4 (ow_lst av_nil) sc_q9.nd) (xs_cons (x_for rfl (it_range1 rfl m_range (av_cons (ev_var 3) av_nil)) (tg_name 5 sc_q9.nd) (xs_cons (x_setO 6 (ow_lst av_nil) sc_q9.nd) (xs_cons (x_for rfl (it_enum rfl m_enumerate (ev_ow (ow_lst (av_cons ev_str (av_cons ev_str (av_cons ev_str av_nil)))))) (tg_two rfl (tg_name 7 sc_q9.nd) (tg_name 8 sc_q9.nd)) (xs_one (x_if (tv_cmp (opd_eqD (room_u hr)) (ev_call F_q11 (pw1 ⟨rfl,rfl,rfl⟩) hr rfl D_q11.mg D_q11.fn.kp D_q11.bd (av_cons (ev_op opd_addD (ev_op opd_addD (ev_call F_q7 (pw1 ⟨rfl,rfl,rfl⟩) hr rfl D_q7.mg D_q7.fn.kp D_q7.bd (av_cons (ev_var 0) (av_cons (ev_op opd_addD (ev_var 1) ev_int) av_nil))) (ev_op opd_mul ev_int (ev_var 5))) (ev_var 7)) (av_cons ev_int (av_cons ev_int av_nil)))) ev_int) (xs_one (x_app 6 (ev_var 8))) xs_nil)) (hp:=po1 ⟨rfl,rfl,rfl⟩)) (xs_cons (x_setO 9 (ow_lst av_nil) sc_q9.nd) (xs_cons (x_for rfl (it_range1 rfl m_range (av_cons ev_int av_nil)) (tg_name 10 sc_q9.nd) (xs_cons (x_set 11 (ev_op opd_addD (ev_call F_q7 (pw1 ⟨rfl,rfl,rfl⟩) hr rfl D_q7.mg D_q7.fn.kp D_q7.bd (av_cons (ev_var 0) (av_cons (ev_op opd_addD (ev_op opd_addD (ev_var 1) ev_int) (ev_var 10)) av_nil))) (ev_op opd_mul ev_int (ev_var 5))) sc_q9.nd) (xs_cons (x_freeze (x_setComp 12 (blk_mk (defScope s_q9) N_q9 ["_law_own","_law_seed","_law_world"] rfl rfl rfl rfl (List.forall_mem_cons.mpr ⟨rfl,(List.forall_mem_cons.mpr ⟨rfl,(List.forall_mem_cons.mpr ⟨rfl,(List.forall_mem_nil _)⟩)⟩)⟩) (by decide +kernel)) rfl (it_range1 rfl m_range (av_cons (ev_var 3) av_nil)) (λ _ _ _ _=>(ts_one (WvD.tv (wv_or (tv_cmp (opd_eqD (room_u hr)) (ev_call F_q11 pwB hr rfl D_q11.mg D_q11.fn.kp D_q11.bd (av_cons (ev_op opd_addD (ev_var 13) (ev_op opd_mul ev_int (ev_var 0))) (av_cons ev_int (av_cons ev_int av_nil)))) ev_int) (wv_or1 (WvD.tv (wv_and (tv_cmp (opd_eqD (room_u hr)) (ev_var 4) ev_int) (wv_and1 (tv_cmp (opd_eqD (room_u hr)) (ev_var 0) (ev_var 7)))))))))) (λ _ _ _ _=>(ev_var 0)) sc_q9.nd)) (xs_one (x_app 9 (ev_callTS calls_tuple rfl m_tuple boot_tuple (sq_var 12)))))) (hp:=po1 ⟨rfl,rfl,rfl⟩)) (xs_one (x_app 4 (ev_tup (av_cons (ev_callTS calls_tuple rfl m_tuple boot_tuple (sq_var 6)) (av_cons (ev_callTS calls_tuple rfl m_tuple boot_tuple (sq_var 9)) av_nil))))))))) (hp:=po1 ⟨rfl,rfl,rfl⟩)) (xs_one (x_ret (ev_callTS calls_tuple rfl m_tuple boot_tuple (sq_var 4)))))))
abbrev s_q0:Stmt:=top 7
abbrev ps_q0:List Str:=["marks"]
theorem sc_q0:FnScope N_q0 ps_q0 (defScope s_q0):=⟨rfl,rfl,rfl,by decide +kernel,rfl,by decide +kernel,by decide +kernel⟩
theorem ok_q0 {P:Program} {w:World} {K:PySem.W.Frag} {mg:Str->Option Value} {base:Heap} {k:Nat} {a:Addr} {fd:FuncData} (Df:Def K mg "first_places" s_q0 ps_q0 a fd)
    (m_enumerate:mg "enumerate"=none)
   :FnOk P w K mg base (CX1 P w) (k + 1) a fd ps_q0 (spF K mg ps_q0.length λ ds=>callR N_q0 (B_q0 w) ds) :=
  fn_R1 Df.fn sc_q0 λ cdv A outer s H W E hr=>(xs_cons (x_setD 1 od_nil sc_q0.nd) (xs_cons (x_for rfl (it_enum rfl m_enumerate (ev_var 0)) (tg_two rfl (tg_name 2 sc_q0.nd) (tg_name 3 sc_q0.nd)) (xs_one (x_sdefD 1 (room_u hr) (ev_var 3) (ev_var 2))) (hp:=po1 ⟨rfl,rfl,rfl⟩)) (xs_one (x_ret (ev_ow (ow_comp (blk_mk (defScope s_q0) N_q0 ["first"] rfl rfl rfl rfl (List.forall_mem_cons.mpr ⟨rfl,(List.forall_mem_nil _)⟩) (by decide +kernel)) rfl (it_list (ev_var 0)) (λ _ _ _ _=>ts_nil) (λ _ _ _ _=>(ev_ixD (room_u hr) (di_var 3) (ev_var 0)))))))))
abbrev s_q13:Stmt:=top 1
abbrev ps_q13:List Str:=["world","kind","row"]
theorem sc_q13:FnScope N_q13 ps_q13 (defScope s_q13):=⟨rfl,rfl,rfl,by decide +kernel,rfl,by decide +kernel,by decide +kernel⟩
theorem ok_q13 {P:Program} {w:World} {K:PySem.W.Frag} {mg:Str->Option Value} {base:Heap} {k:Nat} {a:Addr} {fd:FuncData} (Df:Def K mg "led_to" s_q13 ps_q13 a fd)
   :FnOk P w K mg base (CX1 P w) (k + 1) a fd ps_q13 (spF K mg ps_q13.length λ ds=>callR N_q13 (B_q13) ds) :=
  fn_R1 Df.fn sc_q13 λ cdv A outer s H W E hr=>(xs_one (x_ret (ev_ow (ow_comp (blk_mk (defScope s_q13) N_q13 ["row"] rfl rfl rfl rfl (List.forall_mem_cons.mpr ⟨rfl,(List.forall_mem_nil _)⟩) (by decide +kernel)) rfl (it_tup (ev_ix (ev_ix (ev_var 0) ev_int) (ev_var 1))) (λ _ _ _ _=>ts_nil) (λ _ _ _ _=>(ev_ix (ev_var 4) (ev_var 0)))))))
abbrev s_q12:Stmt:=top 8
abbrev ps_q12:List Str:=["world","sorts","number"]
theorem sc_q12:FnScope N_q12 ps_q12 (defScope s_q12):=⟨rfl,rfl,rfl,by decide +kernel,rfl,by decide +kernel,by decide +kernel⟩
theorem ok_q12 {P:Program} {w:World} {K:PySem.W.Frag} {mg:Str->Option Value} {base:Heap} {k:Nat} {a:Addr} {fd:FuncData} (Df:Def K mg "mark_of" s_q12 ps_q12 a fd)
    {M_q13:List D->R D} {a_q13:Addr} {fd_q13:FuncData} (D_q13:Def K mg "led_to" s_q13 ps_q13 a_q13 fd_q13) (F_q13:FnOk P w K mg base (CX1 P w) k a_q13 fd_q13 ps_q13 (spF K mg ps_q13.length M_q13))
    (m_tuple:mg "tuple"=none)
    (m_range:mg "range"=none)
    (m_sorted:mg "sorted"=none)
    (m_set:mg "set"=none)
   :FnOk P w K mg base (CX1 P w) (k + 1) a fd ps_q12 (spF K mg ps_q12.length λ ds=>callR N_q12 (B_q12 M_q13) ds) :=
  fn_R1 Df.fn sc_q12 λ cdv A outer s H W E hr=>(xs_one (x_ret (ev_tup (av_cons (ev_ix (ev_var 1) (ev_var 2)) (av_cons (ev_callTS calls_tuple rfl m_tuple boot_tuple (sq_ow (ow_comp (blk_mk (defScope s_q12) N_q12 ["sorts","world"] rfl rfl rfl rfl (List.forall_mem_cons.mpr ⟨rfl,(List.forall_mem_cons.mpr ⟨rfl,(List.forall_mem_nil _)⟩)⟩) (by decide +kernel)) rfl (it_range1 rfl m_range (av_cons ev_int av_nil)) (λ _ _ _ _=>ts_nil) (λ _ _ _ _=>(ev_callTS calls_tuple rfl m_tuple boot_tuple (sq_ow (ow_sortset rfl rfl m_sorted rfl m_set (sq_ev (ev_call F_q13 pwB hr rfl D_q13.mg D_q13.fn.kp D_q13.bd (av_cons (ev_var 2) (av_cons (ev_var 0) (av_cons (ev_var 3) av_nil)))))))))))) av_nil)))))
abbrev s_q5:Stmt:=top 9
abbrev ps_q5:List Str:=["yard","sorts"]
theorem sc_q5:FnScope N_q5 ps_q5 (defScope s_q5):=⟨rfl,rfl,rfl,by decide +kernel,rfl,by decide +kernel,by decide +kernel⟩
theorem ok_q5 {P:Program} {w:World} {K:PySem.W.Frag} {mg:Str->Option Value} {base:Heap} {k:Nat} {a:Addr} {fd:FuncData} (Df:Def K mg "next_stage" s_q5 ps_q5 a fd)
    {M_q0:List D->R D} {a_q0:Addr} {fd_q0:FuncData} (D_q0:Def K mg "first_places" s_q0 ps_q0 a_q0 fd_q0) (F_q0:FnOk P w K mg base (CX1 P w) k a_q0 fd_q0 ps_q0 (spF K mg ps_q0.length M_q0))
    {M_q12:List D->R D} {a_q12:Addr} {fd_q12:FuncData} (D_q12:Def K mg "mark_of" s_q12 ps_q12 a_q12 fd_q12) (F_q12:FnOk P w K mg base (CX1 P w) k a_q12 fd_q12 ps_q12 (spF K mg ps_q12.length M_q12))
    (m_enumerate:mg "enumerate"=none)
   :FnOk P w K mg base (CX1 P w) (k + 1) a fd ps_q5 (spF K mg ps_q5.length λ ds=>callR N_q5 (B_q5 M_q0 M_q12) ds) :=
  fn_R1 Df.fn sc_q5 λ cdv A outer s H W E hr=>(xs_one (x_ret (ev_call F_q0 (pw1 ⟨rfl,rfl,rfl⟩) hr rfl D_q0.mg D_q0.fn.kp D_q0.bd (av_cons (ev_ow (ow_comp2 (blk_mk2 (defScope s_q5) N_q5 ["sorts"] rfl rfl rfl rfl (List.forall_mem_cons.mpr ⟨rfl,(List.forall_mem_nil _)⟩) (by decide +kernel)) rfl (it_enum rfl m_enumerate (ev_var 0)) (λ _ _ _ _=>ts_nil) (λ _ _ _ _=>(ev_call F_q12 pwB hr rfl D_q12.mg D_q12.fn.kp D_q12.bd (av_cons (ev_var 1) (av_cons (ev_var 4) (av_cons (ev_var 0) av_nil))))))) av_nil))))
abbrev s_q6:Stmt:=top 10
abbrev ps_q6:List Str:=["yard"]
theorem sc_q6:FnScope N_q6 ps_q6 (defScope s_q6):=⟨rfl,rfl,rfl,by decide +kernel,rfl,by decide +kernel,by decide +kernel⟩
theorem ok_q6 {P:Program} {w:World} {K:PySem.W.Frag} {mg:Str->Option Value} {base:Heap} {k:Nat} {a:Addr} {fd:FuncData} (Df:Def K mg "stages_of" s_q6 ps_q6 a fd)
    {M_q0:List D->R D} {a_q0:Addr} {fd_q0:FuncData} (D_q0:Def K mg "first_places" s_q0 ps_q0 a_q0 fd_q0) (F_q0:FnOk P w K mg base (CX1 P w) k a_q0 fd_q0 ps_q0 (spF K mg ps_q0.length M_q0))
    {M_q5:List D->R D} {a_q5:Addr} {fd_q5:FuncData} (D_q5:Def K mg "next_stage" s_q5 ps_q5 a_q5 fd_q5) (F_q5:FnOk P w K mg base (CX1 P w) k a_q5 fd_q5 ps_q5 (spF K mg ps_q5.length M_q5))
   :FnOk P w K mg base (CX1 P w) (k + 1) a fd ps_q6 (spF K mg ps_q6.length λ ds=>callR N_q6 (B_q6 M_q0 M_q5) ds) :=
  fn_R1 Df.fn sc_q6 λ cdv A outer s H W E hr=>(xs_cons (x_setO 1 (ow_lst (av_cons (ev_call F_q0 (pw1 ⟨rfl,rfl,rfl⟩) hr rfl D_q0.mg D_q0.fn.kp D_q0.bd (av_cons (ev_ow (ow_comp (blk_mk (defScope s_q6) N_q6 [] rfl rfl rfl rfl (List.forall_mem_nil _) (by decide +kernel)) rfl (it_tup (ev_var 0)) (λ _ _ _ _=>ts_nil) (λ _ _ _ _=>(ev_ix (ev_var 0) ev_int)))) av_nil)) av_nil)) sc_q6.nd) (xs_cons (x_set 2 (ev_call F_q5 (pw1 ⟨rfl,rfl,rfl⟩) hr rfl D_q5.mg D_q5.fn.kp D_q5.bd (av_cons (ev_var 0) (av_cons (ev_ixS (sq_var 1) ev_int) av_nil))) sc_q6.nd) (xs_cons (x_while (tv_cmp (opd_neD (room_u hr)) (ev_var 2) (ev_ixS (sq_var 1) (ev_neg ev_int))) (xs_cons (x_app 1 (ev_var 2)) (xs_one (x_set 2 (ev_call F_q5 (pw1 ⟨rfl,rfl,rfl⟩) hr rfl D_q5.mg D_q5.fn.kp D_q5.bd (av_cons (ev_var 0) (av_cons (ev_var 2) av_nil))) sc_q6.nd))) (hp:=po1 ⟨rfl,rfl,rfl⟩)) (xs_one (x_retO 1)))))
abbrev s_q10:Stmt:=top 11
abbrev ps_q10:List Str:=["yard"]
theorem sc_q10:FnScope N_q10 ps_q10 (defScope s_q10):=⟨rfl,rfl,rfl,by decide +kernel,rfl,by decide +kernel,by decide +kernel⟩
theorem ok_q10 {P:Program} {w:World} {K:PySem.W.Frag} {mg:Str->Option Value} {base:Heap} {k:Nat} {a:Addr} {fd:FuncData} (Df:Def K mg "likeness" s_q10 ps_q10 a fd)
    {M_q6:List D->R D} {a_q6:Addr} {fd_q6:FuncData} (D_q6:Def K mg "stages_of" s_q6 ps_q6 a_q6 fd_q6) (F_q6:FnOk P w K mg base (CX1 P w) k a_q6 fd_q6 ps_q6 (spF K mg ps_q6.length M_q6))
    (m_tuple:mg "tuple"=none)
   :FnOk P w K mg base (CX1 P w) (k + 1) a fd ps_q10 (spF K mg ps_q10.length λ ds=>callR N_q10 (B_q10 M_q6) ds) :=
  fn_R1 Df.fn sc_q10 λ cdv A outer s H W E hr=>(xs_one (x_ret (ev_callTS calls_tuple rfl m_tuple boot_tuple (sq_ev (ev_ix (ev_call F_q6 (pw1 ⟨rfl,rfl,rfl⟩) hr rfl D_q6.mg D_q6.fn.kp D_q6.bd (av_cons (ev_var 0) av_nil)) (ev_neg ev_int))))))
abbrev s_q8:Stmt:=top 3
abbrev ps_q8:List Str:=["row","places"]
theorem sc_q8:FnScope N_q8 ps_q8 (defScope s_q8):=⟨rfl,rfl,rfl,by decide +kernel,rfl,by decide +kernel,by decide +kernel⟩
theorem ok_q8 {P:Program} {w:World} {K:PySem.W.Frag} {mg:Str->Option Value} {base:Heap} {k:Nat} {a:Addr} {fd:FuncData} (Df:Def K mg "moved_row" s_q8 ps_q8 a fd)
    (m_tuple:mg "tuple"=none)
    (m_sorted:mg "sorted"=none)
    (m_set:mg "set"=none)
   :FnOk P w K mg base (CX1 P w) (k + 1) a fd ps_q8 (spK K w [false,true] λ ds=>callK w [false,true] N_q8 (B_q8 w) ds) :=
  fn_K1 Df.fn sc_q8 rfl λ cdv A outer s H W E hr=>(xs_one (x_ret (ev_callTS calls_tuple rfl m_tuple boot_tuple (sq_ow (ow_sortset rfl rfl m_sorted rfl m_set (sq_ow (ow_comp (blk_mk (defScope s_q8) N_q8 ["places"] rfl rfl rfl rfl (List.forall_mem_cons.mpr ⟨rfl,(List.forall_mem_nil _)⟩) (by decide +kernel)) rfl (it_tup (ev_var 0)) (λ _ _ _ _=>(ts_one (tv_inD (room_u hr) (ev_var 0) (di_var 3)))) (λ _ _ _ _=>(ev_ixD (room_u hr) (di_var 3) (ev_var 0))))))))))
abbrev s_q3:Stmt:=top 4
abbrev ps_q3:List Str:=["world","places"]
theorem sc_q3:FnScope N_q3 ps_q3 (defScope s_q3):=⟨rfl,rfl,rfl,by decide +kernel,rfl,by decide +kernel,by decide +kernel⟩
theorem ok_q3 {P:Program} {w:World} {K:PySem.W.Frag} {mg:Str->Option Value} {base:Heap} {k:Nat} {a:Addr} {fd:FuncData} (Df:Def K mg "moved_world" s_q3 ps_q3 a fd)
    {M_q8:List D->R D} {a_q8:Addr} {fd_q8:FuncData} (D_q8:Def K mg "moved_row" s_q8 ps_q8 a_q8 fd_q8) (F_q8:FnOk P w K mg base (CX1 P w) k a_q8 fd_q8 ps_q8 (spK K w [false,true] M_q8))
    (m_tuple:mg "tuple"=none)
   :FnOk P w K mg base (CX1 P w) (k + 1) a fd ps_q3 (spK K w [false,true] λ ds=>callK w [false,true] N_q3 (B_q3 w M_q8) ds) :=
  fn_K1 Df.fn sc_q3 rfl λ cdv A outer s H W E hr=>(xs_one (x_ret (ev_tup (av_cons (ev_ix (ev_var 0) ev_int) (av_cons (ev_callTS calls_tuple rfl m_tuple boot_tuple (sq_ow (ow_comp (blk_mk (defScope s_q3) N_q3 ["places"] rfl rfl rfl rfl (List.forall_mem_cons.mpr ⟨rfl,(List.forall_mem_nil _)⟩) (by decide +kernel)) rfl (it_tup (ev_ix (ev_var 0) ev_int)) (λ _ _ _ _=>ts_nil) (λ _ _ _ _=>(ev_callK F_q8 pwB hr rfl D_q8.mg D_q8.fn.kp D_q8.bd (ak_ev (ev_var 0) (ak_di (di_var 3) ak_nil))))))) av_nil)))))
abbrev s_q15:Stmt:=top 5
abbrev ps_q15:List Str:=["yard","kept","places"]
theorem sc_q15:FnScope N_q15 ps_q15 (defScope s_q15):=⟨rfl,rfl,rfl,by decide +kernel,rfl,by decide +kernel,by decide +kernel⟩
theorem ok_q15 {P:Program} {w:World} {K:PySem.W.Frag} {mg:Str->Option Value} {base:Heap} {k:Nat} {a:Addr} {fd:FuncData} (Df:Def K mg "moved" s_q15 ps_q15 a fd)
    {M_q3:List D->R D} {a_q3:Addr} {fd_q3:FuncData} (D_q3:Def K mg "moved_world" s_q3 ps_q3 a_q3 fd_q3) (F_q3:FnOk P w K mg base (CX1 P w) k a_q3 fd_q3 ps_q3 (spK K w [false,true] M_q3))
    (m_tuple:mg "tuple"=none)
   :FnOk P w K mg base (CX1 P w) (k + 1) a fd ps_q15 (spK K w [false,false,true] λ ds=>callK w [false,false,true] N_q15 (B_q15 w M_q3) ds) :=
  fn_K1 Df.fn sc_q15 rfl λ cdv A outer s H W E hr=>(xs_one (x_ret (ev_callTS calls_tuple rfl m_tuple boot_tuple (sq_ow (ow_comp (blk_mk (defScope s_q15) N_q15 ["places","yard"] rfl rfl rfl rfl (List.forall_mem_cons.mpr ⟨rfl,(List.forall_mem_cons.mpr ⟨rfl,(List.forall_mem_nil _)⟩)⟩) (by decide +kernel)) rfl (it_list (ev_var 1)) (λ _ _ _ _=>ts_nil) (λ _ _ _ _=>(ev_callK F_q3 pwB hr rfl D_q3.mg D_q3.fn.kp D_q3.bd (ak_ev (ev_ix (ev_var 2) (ev_var 0)) (ak_di (di_var 4) ak_nil)))))))))
abbrev s_q14:Stmt:=top 12
abbrev ps_q14:List Str:=["yard"]
theorem sc_q14:FnScope N_q14 ps_q14 (defScope s_q14):=⟨rfl,rfl,rfl,by decide +kernel,rfl,by decide +kernel,by decide +kernel⟩
theorem ok_q14 {P:Program} {w:World} {K:PySem.W.Frag} {mg:Str->Option Value} {base:Heap} {k:Nat} {a:Addr} {fd:FuncData} (Df:Def K mg "folded" s_q14 ps_q14 a fd)
    {M_q10:List D->R D} {a_q10:Addr} {fd_q10:FuncData} (D_q10:Def K mg "likeness" s_q10 ps_q10 a_q10 fd_q10) (F_q10:FnOk P w K mg base (CX1 P w) k a_q10 fd_q10 ps_q10 (spF K mg ps_q10.length M_q10))
    {M_q15:List D->R D} {a_q15:Addr} {fd_q15:FuncData} (D_q15:Def K mg "moved" s_q15 ps_q15 a_q15 fd_q15) (F_q15:FnOk P w K mg base (CX1 P w) k a_q15 fd_q15 ps_q15 (spK K w [false,false,true] M_q15))
    (m_sorted:mg "sorted"=none)
    (m_set:mg "set"=none)
    (m_dict:mg "dict"=none)
    (m_enumerate:mg "enumerate"=none)
   :FnOk P w K mg base (CX1 P w) (k + 1) a fd ps_q14 (spF K mg ps_q14.length λ ds=>callR N_q14 (B_q14 w M_q10 M_q15) ds) :=
  fn_R1 Df.fn sc_q14 λ cdv A outer s H W E hr=>(xs_cons (x_set 1 (ev_call F_q10 (pw1 ⟨rfl,rfl,rfl⟩) hr rfl D_q10.mg D_q10.fn.kp D_q10.bd (av_cons (ev_var 0) av_nil)) sc_q14.nd) (xs_cons (x_set 2 (ev_ow (ow_sortset rfl rfl m_sorted rfl m_set (sq_var 1))) sc_q14.nd) (xs_cons (x_setD 3 (od_pairs rfl (room_u hr) rfl m_dict (sq_ow (ow_comp2 (blk_mk2 (defScope s_q14) N_q14 ["kept"] rfl rfl rfl rfl (List.forall_mem_cons.mpr ⟨rfl,(List.forall_mem_nil _)⟩) (by decide +kernel)) rfl (it_enum rfl m_enumerate (ev_var 1)) (λ _ _ _ _=>ts_nil) (λ _ _ _ _=>(ev_tup (av_cons (ev_var 0) (av_cons (ev_index (room_u hr) (sq_var 5) (ev_var 1)) av_nil))))))) sc_q14.nd) (xs_one (x_ret (ev_callK F_q15 (pw1 ⟨rfl,rfl,rfl⟩) hr rfl D_q15.mg D_q15.fn.kp D_q15.bd (ak_ev (ev_var 0) (ak_ev (ev_var 2) (ak_di (di_var 3) ak_nil)))))))))
abbrev s_q2:Stmt:=top 16
abbrev ps_q2:List Str:=["_law_seed","_law_left"]
theorem sc_q2:FnScope N_q2 ps_q2 (defScope s_q2):=⟨rfl,rfl,rfl,by decide +kernel,rfl,by decide +kernel,by decide +kernel⟩
theorem ok_q2 {P:Program} {w:World} {K:PySem.W.Frag} {mg:Str->Option Value} {base:Heap} {k:Nat} {a:Addr} {fd:FuncData} (Df:Def K mg "_law_saying" s_q2 ps_q2 a fd)
    {M_q11:List D->R D} {a_q11:Addr} {fd_q11:FuncData} (D_q11:Def K mg "_law_mix" s_q11 ps_q11 a_q11 fd_q11) (F_q11:FnOk P w K mg base (CX1 P w) k a_q11 fd_q11 ps_q11 (spF K mg ps_q11.length M_q11))
    {M_q2:List D->R D} (F_q2:FnOk P w K mg base (CX1 P w) k a fd ps_q2 (spF K mg ps_q2.length M_q2))
   :FnOk P w K mg base (CX1 P w) (k + 1) a fd ps_q2 (spF K mg ps_q2.length λ ds=>callR N_q2 (B_q2 M_q11 M_q2) ds) :=
  fn_R1 Df.fn sc_q2 λ cdv A outer s H W E hr=>(xs_cons (x_set 2 (ev_call F_q11 (pw1 ⟨rfl,rfl,rfl⟩) hr rfl D_q11.mg D_q11.fn.kp D_q11.bd (av_cons (ev_var 0) (av_cons ev_int (av_cons ev_int av_nil)))) sc_q2.nd) (xs_cons (x_if (WvD.tv (wv_or (tv_cmp (opd_eqD (room_u hr)) (ev_var 1) ev_int) (wv_or1 (tv_cmp opd_lt (ev_var 2) ev_int)))) (xs_one (x_ret (ev_tup (av_cons ev_str (av_cons (ev_ixS (sq_ow (ow_lst (av_cons ev_str (av_cons ev_str (av_cons ev_str av_nil))))) (ev_call F_q11 (pw1 ⟨rfl,rfl,rfl⟩) hr rfl D_q11.mg D_q11.fn.kp D_q11.bd (av_cons (ev_var 0) (av_cons ev_int (av_cons ev_int av_nil))))) av_nil))))) xs_nil) (xs_cons (x_set 3 (ev_call F_q2 (pw1 ⟨rfl,rfl,rfl⟩) hr rfl Df.mg Df.fn.kp Df.bd (av_cons (ev_op opd_addD (ev_op opd_mul (ev_var 0) ev_int) ev_int) (av_cons (ev_op opd_sub (ev_var 1) ev_int) av_nil))) sc_q2.nd) (xs_cons (x_if (tv_cmp opd_lt (ev_var 2) ev_int) (xs_one (x_ret (ev_tup (av_cons ev_str (av_cons (ev_var 3) av_nil))))) xs_nil) (xs_cons (x_if (tv_cmp opd_lt (ev_var 2) ev_int) (xs_one (x_ret (ev_tup (av_cons (ev_ixS (sq_ow (ow_lst (av_cons ev_str (av_cons ev_str av_nil)))) (ev_call F_q11 (pw1 ⟨rfl,rfl,rfl⟩) hr rfl D_q11.mg D_q11.fn.kp D_q11.bd (av_cons (ev_var 0) (av_cons ev_int (av_cons ev_int av_nil))))) (av_cons (ev_var 3) (av_cons (ev_call F_q2 (pw1 ⟨rfl,rfl,rfl⟩) hr rfl Df.mg Df.fn.kp Df.bd (av_cons (ev_op opd_addD (ev_op opd_mul (ev_var 0) ev_int) ev_int) (av_cons (ev_op opd_sub (ev_var 1) ev_int) av_nil))) av_nil)))))) xs_nil) (xs_one (x_ret (ev_tup (av_cons (ev_ixS (sq_ow (ow_lst (av_cons ev_str (av_cons ev_str av_nil)))) (ev_call F_q11 (pw1 ⟨rfl,rfl,rfl⟩) hr rfl D_q11.mg D_q11.fn.kp D_q11.bd (av_cons (ev_var 0) (av_cons ev_int (av_cons ev_int av_nil))))) (av_cons (ev_call F_q11 (pw1 ⟨rfl,rfl,rfl⟩) hr rfl D_q11.mg D_q11.fn.kp D_q11.bd (av_cons (ev_var 0) (av_cons ev_int (av_cons ev_int av_nil)))) (av_cons (ev_var 3) av_nil)))))))))))
abbrev s_q1:Stmt:=top 19
abbrev ps_q1:List Str:=["_law_yard_here"]
theorem sc_q1:FnScope N_q1 ps_q1 (defScope s_q1):=⟨rfl,rfl,rfl,by decide +kernel,rfl,by decide +kernel,by decide +kernel⟩
theorem ok_q1 {P:Program} {w:World} {K:PySem.W.Frag} {mg:Str->Option Value} {base:Heap} {k:Nat} {a:Addr} {fd:FuncData} (Df:Def K mg "_law_is_yard" s_q1 ps_q1 a fd)
    (m_len:mg "len"=none)
    (m_isinstance:mg "isinstance"=none)
    (m_tuple:mg "tuple"=none)
    (m_list:mg "list"=none)
    (m_sorted:mg "sorted"=none)
    (m_set:mg "set"=none)
    (m_all:mg "all"=none)
    (m_bool:mg "bool"=none)
    (m_int:mg "int"=none)
   :FnOk P w K mg base (CX1 P w) (k + 1) a fd ps_q1 (spF K mg ps_q1.length λ ds=>callR N_q1 (B_q1) ds) :=
  fn_R1 Df.fn sc_q1 λ cdv A outer s H W E hr=>(xs_cons (x_if (WvD.tv (wv_or (tv_not (tv_val (ev_isi (g:=gTuple) rfl m_isinstance rfl m_tuple boot_tuple (ev_var 0) (kit_tuple _) boot_isinstance))) (wv_or1 (tv_cmp (opd_eqD (room_u hr)) (ev_callB calld_len rfl m_len PySem.boot_len (av_cons (ev_var 0) av_nil)) ev_int)))) (xs_one (x_ret ev_bl)) xs_nil) (xs_cons (x_for rfl (it_tup (ev_var 0)) (tg_name 1 sc_q1.nd) (xs_cons (x_if (WvD.tv (wv_or (tv_not (tv_val (ev_isi (g:=gTuple) rfl m_isinstance rfl m_tuple boot_tuple (ev_var 1) (kit_tuple _) boot_isinstance))) (wv_or (tv_cmp (opd_neD (room_u hr)) (ev_callB calld_len rfl m_len PySem.boot_len (av_cons (ev_var 1) av_nil)) ev_int) (wv_or1 (tv_not (tv_val (ev_isi (g:=gTuple) rfl m_isinstance rfl m_tuple boot_tuple (ev_ix (ev_var 1) ev_int) (kit_tuple _) boot_isinstance))))))) (xs_one (x_ret ev_bl)) xs_nil) (xs_cons (x_if (WvD.tv (wv_or (tv_cmp (opd_neD (room_u hr)) (ev_ow (ow_list rfl m_list boot_list (sq_ev (ev_ix (ev_var 1) ev_int)))) (ev_ow (ow_sortset rfl rfl m_sorted rfl m_set (sq_ev (ev_ix (ev_var 1) ev_int))))) (wv_or (tv_not (tv_val (ev_isi (g:=gTuple) rfl m_isinstance rfl m_tuple boot_tuple (ev_ix (ev_var 1) ev_int) (kit_tuple _) boot_isinstance))) (wv_or1 (tv_cmp (opd_neD (room_u hr)) (ev_callB calld_len rfl m_len PySem.boot_len (av_cons (ev_ix (ev_var 1) ev_int) av_nil)) ev_int))))) (xs_one (x_ret ev_bl)) xs_nil) (xs_one (x_for rfl (it_tup (ev_ix (ev_var 1) ev_int)) (tg_name 2 sc_q1.nd) (xs_cons (x_if (WvD.tv (wv_or (tv_not (tv_val (ev_isi (g:=gTuple) rfl m_isinstance rfl m_tuple boot_tuple (ev_var 2) (kit_tuple _) boot_isinstance))) (wv_or1 (tv_cmp (opd_neD (room_u hr)) (ev_ow (ow_list rfl m_list boot_list (sq_var 2))) (ev_ow (ow_sortset rfl rfl m_sorted rfl m_set (sq_var 2))))))) (xs_one (x_ret ev_bl)) xs_nil) (xs_one (x_if (tv_not (tv_val (ev_callBS (calls_all rfl) rfl m_all boot_all (sq_ow (ow_comp (blk_mk (defScope s_q1) N_q1 ["_law_yard_here"] rfl rfl rfl rfl (List.forall_mem_cons.mpr ⟨rfl,(List.forall_mem_nil _)⟩) (by decide +kernel)) rfl (it_tup (ev_var 2)) (λ _ _ _ _=>ts_nil) (λ _ _ _ _=>(ev_and (ev_isi (g:=gInt) rfl m_isinstance rfl m_int boot_int (ev_var 0) (kit_int _) boot_isinstance) (ev_and (ev_not (ev_isi (g:=gBool) rfl m_isinstance rfl m_bool boot_bool (ev_var 0) (kit_bool _) boot_isinstance)) (ev_one (ev_chain opd_le opd_lt ev_int (ev_var 0) (ev_callB calld_len rfl m_len PySem.boot_len (av_cons (ev_var 2) av_nil)))))))))))) (xs_one (x_ret ev_bl)) xs_nil))) (hp:=po1 ⟨rfl,rfl,rfl⟩))))) (hp:=po1 ⟨rfl,rfl,rfl⟩)) (xs_one (x_ret ev_bl))))
abbrev s_q4:Stmt:=top 18
abbrev ps_q4:List Str:=["_law_yard_here","_law_world","_law_saying_here"]
theorem sc_q4:FnScope N_q4 ps_q4 (defScope s_q4):=⟨rfl,rfl,rfl,by decide +kernel,rfl,by decide +kernel,by decide +kernel⟩
theorem ok_q4 {P:Program} {w:World} {K:PySem.W.Frag} {mg:Str->Option Value} {base:Heap} {k:Nat} {a:Addr} {fd:FuncData} (Df:Def K mg "_law_holds" s_q4 ps_q4 a fd)
    {M_q4:List D->R D} (F_q4:FnOk P w K mg base (CX1 P w) k a fd ps_q4 (spF K mg ps_q4.length M_q4))
   :FnOk P w K mg base (CX1 P w) (k + 1) a fd ps_q4 (spF K mg ps_q4.length λ ds=>callR N_q4 (B_q4 M_q4) ds) :=
  fn_R1 Df.fn sc_q4 λ cdv A outer s H W E hr=>(xs_cons (x_if (tv_cmp (opd_eqD (room_u hr)) (ev_ix (ev_var 2) ev_int) ev_str) (xs_one (x_ret (ev_cmp (opd_memA (room_u hr)) (ev_ix (ev_var 2) ev_int) (ev_ix (ev_ix (ev_var 0) (ev_var 1)) ev_int)))) xs_nil) (xs_cons (x_if (tv_cmp (opd_eqD (room_u hr)) (ev_ix (ev_var 2) ev_int) ev_str) (xs_one (x_ret (ev_not (ev_call F_q4 (pw1 ⟨rfl,rfl,rfl⟩) hr rfl Df.mg Df.fn.kp Df.bd (av_cons (ev_var 0) (av_cons (ev_var 1) (av_cons (ev_ix (ev_var 2) ev_int) av_nil))))))) xs_nil) (xs_cons (x_if (tv_cmp (opd_eqD (room_u hr)) (ev_ix (ev_var 2) ev_int) ev_str) (xs_one (x_ret (ev_and (ev_call F_q4 (pw1 ⟨rfl,rfl,rfl⟩) hr rfl Df.mg Df.fn.kp Df.bd (av_cons (ev_var 0) (av_cons (ev_var 1) (av_cons (ev_ix (ev_var 2) ev_int) av_nil)))) (ev_one (ev_call F_q4 (pw1 ⟨rfl,rfl,rfl⟩) hr rfl Df.mg Df.fn.kp Df.bd (av_cons (ev_var 0) (av_cons (ev_var 1) (av_cons (ev_ix (ev_var 2) ev_int) av_nil)))))))) xs_nil) (xs_cons (x_if (tv_cmp (opd_eqD (room_u hr)) (ev_ix (ev_var 2) ev_int) ev_str) (xs_one (x_ret (ev_or (ev_call F_q4 (pw1 ⟨rfl,rfl,rfl⟩) hr rfl Df.mg Df.fn.kp Df.bd (av_cons (ev_var 0) (av_cons (ev_var 1) (av_cons (ev_ix (ev_var 2) ev_int) av_nil)))) (ev_one (ev_call F_q4 (pw1 ⟨rfl,rfl,rfl⟩) hr rfl Df.mg Df.fn.kp Df.bd (av_cons (ev_var 0) (av_cons (ev_var 1) (av_cons (ev_ix (ev_var 2) ev_int) av_nil)))))))) xs_nil) (xs_cons (x_for rfl (it_tup (ev_ix (ev_ix (ev_ix (ev_var 0) (ev_var 1)) ev_int) (ev_ix (ev_var 2) ev_int))) (tg_name 3 sc_q4.nd) (xs_one (x_if (tv_cmp (opd_neD (room_u hr)) (ev_call F_q4 (pw1 ⟨rfl,rfl,rfl⟩) hr rfl Df.mg Df.fn.kp Df.bd (av_cons (ev_var 0) (av_cons (ev_var 3) (av_cons (ev_ix (ev_var 2) ev_int) av_nil)))) (ev_cmp (opd_eqD (room_u hr)) (ev_ix (ev_var 2) ev_int) ev_str)) (xs_one (x_ret (ev_cmp (opd_eqD (room_u hr)) (ev_ix (ev_var 2) ev_int) ev_str))) xs_nil)) (hp:=po1 ⟨rfl,rfl,rfl⟩)) (xs_one (x_ret (ev_cmp (opd_eqD (room_u hr)) (ev_ix (ev_var 2) ev_int) ev_str))))))))
noncomputable def M_law:List D->R D:=λ ds=>callR N_law (B_law M_q7 M_q9 M_q14 M_q10 M_q1 (M_q2 6) (M_q4 6)) ds
abbrev s_law:Stmt:=top 20
abbrev ps_law:List Str:=["_law_script"]
theorem sc_law:FnScope N_law ps_law (defScope s_law):=⟨rfl,rfl,rfl,by decide +kernel,rfl,by decide +kernel,by decide +kernel⟩
theorem ok_law {P:Program} {w:World} {K:PySem.W.Frag} {mg:Str->Option Value} {base:Heap} {k:Nat} {a:Addr} {fd:FuncData} (Df:Def K mg "law" s_law ps_law a fd)
    {M_q7:List D->R D} {a_q7:Addr} {fd_q7:FuncData} (D_q7:Def K mg "_law_cell" s_q7 ps_q7 a_q7 fd_q7) (F_q7:FnOk P w K mg base (CX1 P w) k a_q7 fd_q7 ps_q7 (spF K mg ps_q7.length M_q7))
    {M_q9:List D->R D} {a_q9:Addr} {fd_q9:FuncData} (D_q9:Def K mg "_law_yard" s_q9 ps_q9 a_q9 fd_q9) (F_q9:FnOk P w K mg base (CX1 P w) k a_q9 fd_q9 ps_q9 (spF K mg ps_q9.length M_q9))
    {M_q14:List D->R D} {a_q14:Addr} {fd_q14:FuncData} (D_q14:Def K mg "folded" s_q14 ps_q14 a_q14 fd_q14) (F_q14:FnOk P w K mg base (CX1 P w) k a_q14 fd_q14 ps_q14 (spF K mg ps_q14.length M_q14))
    {M_q10:List D->R D} {a_q10:Addr} {fd_q10:FuncData} (D_q10:Def K mg "likeness" s_q10 ps_q10 a_q10 fd_q10) (F_q10:FnOk P w K mg base (CX1 P w) k a_q10 fd_q10 ps_q10 (spF K mg ps_q10.length M_q10))
    {M_q1:List D->R D} {a_q1:Addr} {fd_q1:FuncData} (D_q1:Def K mg "_law_is_yard" s_q1 ps_q1 a_q1 fd_q1) (F_q1:FnOk P w K mg base (CX1 P w) k a_q1 fd_q1 ps_q1 (spF K mg ps_q1.length M_q1))
    {M_q2:List D->R D} {a_q2:Addr} {fd_q2:FuncData} (D_q2:Def K mg "_law_saying" s_q2 ps_q2 a_q2 fd_q2) (F_q2:FnOk P w K mg base (CX1 P w) k a_q2 fd_q2 ps_q2 (spF K mg ps_q2.length M_q2))
    {M_q4:List D->R D} {a_q4:Addr} {fd_q4:FuncData} (D_q4:Def K mg "_law_holds" s_q4 ps_q4 a_q4 fd_q4) (F_q4:FnOk P w K mg base (CX1 P w) k a_q4 fd_q4 ps_q4 (spF K mg ps_q4.length M_q4))
    (m_range:mg "range"=none)
    (m_len:mg "len"=none)
    (m_enumerate:mg "enumerate"=none)
    (m_tuple:mg "tuple"=none)
    (m_sorted:mg "sorted"=none)
    (m_set:mg "set"=none)
    (m_all:mg "all"=none)
    (m_list:mg "list"=none)
   :FnOk P w K mg base (CX1 P w) (k + 1) a fd ps_law (spF K mg ps_law.length λ ds=>callR N_law (B_law M_q7 M_q9 M_q14 M_q10 M_q1 M_q2 M_q4) ds) :=
  fn_R1 Df.fn sc_law λ cdv A outer s H W E hr=>(xs_cons (x_set 1 (ev_op opd_mod (ev_call F_q7 (pw1 ⟨rfl,rfl,rfl⟩) hr rfl D_q7.mg D_q7.fn.kp D_q7.bd (av_cons (ev_var 0) (av_cons ev_int av_nil))) ev_int) sc_law.nd) (xs_cons (x_set 2 (ev_call F_q9 (pw1 ⟨rfl,rfl,rfl⟩) hr rfl D_q9.mg D_q9.fn.kp D_q9.bd (av_cons (ev_var 0) (av_cons ev_int (av_cons (ev_var 1) av_nil)))) sc_law.nd) (xs_cons (x_set 3 (ev_call F_q14 (pw1 ⟨rfl,rfl,rfl⟩) hr rfl D_q14.mg D_q14.fn.kp D_q14.bd (av_cons (ev_var 2) av_nil)) sc_law.nd) (xs_cons (x_set 4 (ev_call F_q10 (pw1 ⟨rfl,rfl,rfl⟩) hr rfl D_q10.mg D_q10.fn.kp D_q10.bd (av_cons (ev_var 2) av_nil)) sc_law.nd) (xs_cons (x_set 5 (ev_ow (ow_comp (blk_mk (defScope s_law) N_law ["_law_least"] rfl rfl rfl rfl (List.forall_mem_cons.mpr ⟨rfl,(List.forall_mem_nil _)⟩) (by decide +kernel)) rfl (it_range1 rfl m_range (av_cons (ev_callB calld_len rfl m_len PySem.boot_len (av_cons (ev_var 2) av_nil)) av_nil)) (λ _ _ _ _=>(ts_one (tv_cmp (opd_eqD (room_u hr)) (ev_ix (ev_var 6) (ev_var 0)) (ev_var 0)))) (λ _ _ _ _=>(ev_var 0)))) sc_law.nd) (xs_cons (x_if (WvD.tv (wv_or (tv_not (tv_val (ev_call F_q1 (pw1 ⟨rfl,rfl,rfl⟩) hr rfl D_q1.mg D_q1.fn.kp D_q1.bd (av_cons (ev_var 3) av_nil)))) (wv_or1 (tv_cmp (opd_neD (room_u hr)) (ev_callB calld_len rfl m_len PySem.boot_len (av_cons (ev_var 3) av_nil)) (ev_callB calld_len rfl m_len PySem.boot_len (av_cons (ev_var 5) av_nil)))))) (xs_one (x_ret ev_bl)) xs_nil) (xs_cons (x_for rfl (it_enum rfl m_enumerate (ev_var 5)) (tg_two rfl (tg_name 6 sc_law.nd) (tg_name 7 sc_law.nd)) (xs_cons (x_freeze (x_setComp 8 (blk_mk (defScope s_law) N_law ["_law_kept","_law_least"] rfl rfl rfl rfl (List.forall_mem_cons.mpr ⟨rfl,(List.forall_mem_cons.mpr ⟨rfl,(List.forall_mem_nil _)⟩)⟩) (by decide +kernel)) rfl (it_tup (ev_ix (ev_ix (ev_var 2) (ev_var 7)) ev_int)) (λ _ _ _ _=>ts_nil) (λ _ _ _ _=>(ev_callTS calls_tuple rfl m_tuple boot_tuple (sq_ow (ow_sortset rfl rfl m_sorted rfl m_set (sq_ow (ow_comp (blk_mk _ _ ["_law_kept","_law_least"] rfl rfl rfl rfl (List.forall_mem_cons.mpr ⟨rfl,(List.forall_mem_cons.mpr ⟨rfl,(List.forall_mem_nil _)⟩)⟩) (by kernel_rfl)) rfl (it_tup (ev_var 0)) (λ _ _ _ _=>ts_nil) (λ _ _ _ _=>(ev_index (room_u hr) (sq_var 9) (ev_ix (ev_var 8) (ev_var 0)))))))))) sc_law.nd)) (xs_cons (x_if (tv_cmp (opd_neD (room_u hr)) (ev_ix (ev_var 3) (ev_var 6)) (ev_tup (av_cons (ev_ix (ev_ix (ev_var 2) (ev_var 7)) ev_int) (av_cons (ev_callTS calls_tuple rfl m_tuple boot_tuple (sq_var 8)) av_nil)))) (xs_one (x_ret ev_bl)) xs_nil) (xs_one (x_if (WvD.tv (wv_and (tv_cmp (opd_eqD (room_u hr)) (ev_var 1) ev_int) (wv_and1 (tv_not (tv_val (ev_callBS (calls_all rfl) rfl m_all boot_all (sq_ow (ow_comp (blk_mk (defScope s_law) N_law ["_law_k"] rfl rfl rfl rfl (List.forall_mem_cons.mpr ⟨rfl,(List.forall_mem_nil _)⟩) (by decide +kernel)) rfl (it_tup (ev_ix (ev_ix (ev_var 3) (ev_var 6)) ev_int)) (λ _ _ _ _=>ts_nil) (λ _ _ _ _=>(ev_cmp (opd_memA (room_u hr)) (ev_var 8) (ev_var 0))))))))))) (xs_one (x_ret ev_bl)) xs_nil)))) (hp:=po1 ⟨rfl,rfl,rfl⟩)) (xs_cons (x_if (WvD.tv (wv_or (tv_cmp (opd_neD (room_u hr)) (ev_call F_q14 (pw1 ⟨rfl,rfl,rfl⟩) hr rfl D_q14.mg D_q14.fn.kp D_q14.bd (av_cons (ev_var 3) av_nil)) (ev_var 3)) (wv_or1 (tv_cmp (opd_neD (room_u hr)) (ev_call F_q10 (pw1 ⟨rfl,rfl,rfl⟩) hr rfl D_q10.mg D_q10.fn.kp D_q10.bd (av_cons (ev_var 3) av_nil)) (ev_callTS calls_tuple rfl m_tuple boot_tuple (sq_ow (ow_listrng rfl rfl m_list rfl m_range (ev_callB calld_len rfl m_len PySem.boot_len (av_cons (ev_var 3) av_nil))))))))) (xs_one (x_ret ev_bl)) xs_nil) (xs_cons (x_for rfl (it_list (ev_ow (ow_slL (sq_var 0) (ov_some ev_int) (ov_some ev_int)))) (tg_name 9 sc_law.nd) (xs_cons (x_set 10 (ev_call F_q2 (pw1 ⟨rfl,rfl,rfl⟩) hr rfl D_q2.mg D_q2.fn.kp D_q2.bd (av_cons (ev_var 9) (av_cons ev_int av_nil))) sc_law.nd) (xs_one (x_for rfl (it_range1 rfl m_range (av_cons (ev_callB calld_len rfl m_len PySem.boot_len (av_cons (ev_var 2) av_nil)) av_nil)) (tg_name 6 sc_law.nd) (xs_one (x_if (tv_cmp (opd_neD (room_u hr)) (ev_call F_q4 (pw1 ⟨rfl,rfl,rfl⟩) hr rfl D_q4.mg D_q4.fn.kp D_q4.bd (av_cons (ev_var 2) (av_cons (ev_var 6) (av_cons (ev_var 10) av_nil)))) (ev_call F_q4 (pw1 ⟨rfl,rfl,rfl⟩) hr rfl D_q4.mg D_q4.fn.kp D_q4.bd (av_cons (ev_var 3) (av_cons (ev_index (room_u hr) (sq_var 5) (ev_ix (ev_var 4) (ev_var 6))) (av_cons (ev_var 10) av_nil))))) (xs_one (x_ret ev_bl)) xs_nil)) (hp:=po1 ⟨rfl,rfl,rfl⟩)))) (hp:=po1 ⟨rfl,rfl,rfl⟩)) (xs_one (x_ret ev_bl)))))))))))
theorem all_mk {l:PySem.W.OpenLaw} {w:World} {K:PySem.W.Frag} {h:Heap} {mg:Str->Option Value} {fa f_q7 f_q11 f_q9 f_q0 f_q13 f_q12 f_q5 f_q6 f_q10 f_q8 f_q3 f_q15 f_q14 f_q2 f_q1 f_q4 f_law  :Addr} (X:K.In h) (G:h.Ns mainGlobals mg) (hfa:mg "law"=some (.ref fa))
    {od_q7 an_q7:Option Addr} {sl_q7:Array (Option Value)} {oc_q7 kV_q7 dc_q7 pm_q7 cd_q7 ct_q7:Value}
    {od_q11 an_q11:Option Addr} {sl_q11:Array (Option Value)} {oc_q11 kV_q11 dc_q11 pm_q11 cd_q11 ct_q11:Value}
    {od_q9 an_q9:Option Addr} {sl_q9:Array (Option Value)} {oc_q9 kV_q9 dc_q9 pm_q9 cd_q9 ct_q9:Value}
    {od_q0 an_q0:Option Addr} {sl_q0:Array (Option Value)} {oc_q0 kV_q0 dc_q0 pm_q0 cd_q0 ct_q0:Value}
    {od_q13 an_q13:Option Addr} {sl_q13:Array (Option Value)} {oc_q13 kV_q13 dc_q13 pm_q13 cd_q13 ct_q13:Value}
    {od_q12 an_q12:Option Addr} {sl_q12:Array (Option Value)} {oc_q12 kV_q12 dc_q12 pm_q12 cd_q12 ct_q12:Value}
    {od_q5 an_q5:Option Addr} {sl_q5:Array (Option Value)} {oc_q5 kV_q5 dc_q5 pm_q5 cd_q5 ct_q5:Value}
    {od_q6 an_q6:Option Addr} {sl_q6:Array (Option Value)} {oc_q6 kV_q6 dc_q6 pm_q6 cd_q6 ct_q6:Value}
    {od_q10 an_q10:Option Addr} {sl_q10:Array (Option Value)} {oc_q10 kV_q10 dc_q10 pm_q10 cd_q10 ct_q10:Value}
    {od_q8 an_q8:Option Addr} {sl_q8:Array (Option Value)} {oc_q8 kV_q8 dc_q8 pm_q8 cd_q8 ct_q8:Value}
    {od_q3 an_q3:Option Addr} {sl_q3:Array (Option Value)} {oc_q3 kV_q3 dc_q3 pm_q3 cd_q3 ct_q3:Value}
    {od_q15 an_q15:Option Addr} {sl_q15:Array (Option Value)} {oc_q15 kV_q15 dc_q15 pm_q15 cd_q15 ct_q15:Value}
    {od_q14 an_q14:Option Addr} {sl_q14:Array (Option Value)} {oc_q14 kV_q14 dc_q14 pm_q14 cd_q14 ct_q14:Value}
    {od_q2 an_q2:Option Addr} {sl_q2:Array (Option Value)} {oc_q2 kV_q2 dc_q2 pm_q2 cd_q2 ct_q2:Value}
    {od_q1 an_q1:Option Addr} {sl_q1:Array (Option Value)} {oc_q1 kV_q1 dc_q1 pm_q1 cd_q1 ct_q1:Value}
    {od_q4 an_q4:Option Addr} {sl_q4:Array (Option Value)} {oc_q4 kV_q4 dc_q4 pm_q4 cd_q4 ct_q4:Value}
    {od_law an_law:Option Addr} {sl_law:Array (Option Value)} {oc_law kV_law dc_law pm_law cd_law ct_law:Value}
    (a_q7:PySem.W.nsIn K mainGlobals "_law_cell"=some (some (.ref f_q7))) (l_q7:K.lookup f_q7=some ⟨oc_q7,od_q7,.func (PySem.W.fnOf "_law_cell" "_law_cell" (defArgs s_q7) (defBody s_q7) (defScope s_q7) .none kV_q7 dc_q7 pm_q7 an_q7 cd_q7 ct_q7),sl_q7⟩) (c_q7:PySem.W.codeIn K cd_q7 "_law_cell"=true) (k_q7:PySem.W.keepIn K (.ref f_q7)=true)
    (a_q11:PySem.W.nsIn K mainGlobals "_law_mix"=some (some (.ref f_q11))) (l_q11:K.lookup f_q11=some ⟨oc_q11,od_q11,.func (PySem.W.fnOf "_law_mix" "_law_mix" (defArgs s_q11) (defBody s_q11) (defScope s_q11) .none kV_q11 dc_q11 pm_q11 an_q11 cd_q11 ct_q11),sl_q11⟩) (c_q11:PySem.W.codeIn K cd_q11 "_law_mix"=true) (k_q11:PySem.W.keepIn K (.ref f_q11)=true)
    (a_q9:PySem.W.nsIn K mainGlobals "_law_yard"=some (some (.ref f_q9))) (l_q9:K.lookup f_q9=some ⟨oc_q9,od_q9,.func (PySem.W.fnOf "_law_yard" "_law_yard" (defArgs s_q9) (defBody s_q9) (defScope s_q9) .none kV_q9 dc_q9 pm_q9 an_q9 cd_q9 ct_q9),sl_q9⟩) (c_q9:PySem.W.codeIn K cd_q9 "_law_yard"=true) (k_q9:PySem.W.keepIn K (.ref f_q9)=true)
    (a_q0:PySem.W.nsIn K mainGlobals "first_places"=some (some (.ref f_q0))) (l_q0:K.lookup f_q0=some ⟨oc_q0,od_q0,.func (PySem.W.fnOf "first_places" "first_places" (defArgs s_q0) (defBody s_q0) (defScope s_q0) .none kV_q0 dc_q0 pm_q0 an_q0 cd_q0 ct_q0),sl_q0⟩) (c_q0:PySem.W.codeIn K cd_q0 "first_places"=true) (k_q0:PySem.W.keepIn K (.ref f_q0)=true)
    (a_q13:PySem.W.nsIn K mainGlobals "led_to"=some (some (.ref f_q13))) (l_q13:K.lookup f_q13=some ⟨oc_q13,od_q13,.func (PySem.W.fnOf "led_to" "led_to" (defArgs s_q13) (defBody s_q13) (defScope s_q13) .none kV_q13 dc_q13 pm_q13 an_q13 cd_q13 ct_q13),sl_q13⟩) (c_q13:PySem.W.codeIn K cd_q13 "led_to"=true) (k_q13:PySem.W.keepIn K (.ref f_q13)=true)
    (a_q12:PySem.W.nsIn K mainGlobals "mark_of"=some (some (.ref f_q12))) (l_q12:K.lookup f_q12=some ⟨oc_q12,od_q12,.func (PySem.W.fnOf "mark_of" "mark_of" (defArgs s_q12) (defBody s_q12) (defScope s_q12) .none kV_q12 dc_q12 pm_q12 an_q12 cd_q12 ct_q12),sl_q12⟩) (c_q12:PySem.W.codeIn K cd_q12 "mark_of"=true) (k_q12:PySem.W.keepIn K (.ref f_q12)=true)
    (a_q5:PySem.W.nsIn K mainGlobals "next_stage"=some (some (.ref f_q5))) (l_q5:K.lookup f_q5=some ⟨oc_q5,od_q5,.func (PySem.W.fnOf "next_stage" "next_stage" (defArgs s_q5) (defBody s_q5) (defScope s_q5) .none kV_q5 dc_q5 pm_q5 an_q5 cd_q5 ct_q5),sl_q5⟩) (c_q5:PySem.W.codeIn K cd_q5 "next_stage"=true) (k_q5:PySem.W.keepIn K (.ref f_q5)=true)
    (a_q6:PySem.W.nsIn K mainGlobals "stages_of"=some (some (.ref f_q6))) (l_q6:K.lookup f_q6=some ⟨oc_q6,od_q6,.func (PySem.W.fnOf "stages_of" "stages_of" (defArgs s_q6) (defBody s_q6) (defScope s_q6) .none kV_q6 dc_q6 pm_q6 an_q6 cd_q6 ct_q6),sl_q6⟩) (c_q6:PySem.W.codeIn K cd_q6 "stages_of"=true) (k_q6:PySem.W.keepIn K (.ref f_q6)=true)
    (a_q10:PySem.W.nsIn K mainGlobals "likeness"=some (some (.ref f_q10))) (l_q10:K.lookup f_q10=some ⟨oc_q10,od_q10,.func (PySem.W.fnOf "likeness" "likeness" (defArgs s_q10) (defBody s_q10) (defScope s_q10) .none kV_q10 dc_q10 pm_q10 an_q10 cd_q10 ct_q10),sl_q10⟩) (c_q10:PySem.W.codeIn K cd_q10 "likeness"=true) (k_q10:PySem.W.keepIn K (.ref f_q10)=true)
    (a_q8:PySem.W.nsIn K mainGlobals "moved_row"=some (some (.ref f_q8))) (l_q8:K.lookup f_q8=some ⟨oc_q8,od_q8,.func (PySem.W.fnOf "moved_row" "moved_row" (defArgs s_q8) (defBody s_q8) (defScope s_q8) .none kV_q8 dc_q8 pm_q8 an_q8 cd_q8 ct_q8),sl_q8⟩) (c_q8:PySem.W.codeIn K cd_q8 "moved_row"=true) (k_q8:PySem.W.keepIn K (.ref f_q8)=true)
    (a_q3:PySem.W.nsIn K mainGlobals "moved_world"=some (some (.ref f_q3))) (l_q3:K.lookup f_q3=some ⟨oc_q3,od_q3,.func (PySem.W.fnOf "moved_world" "moved_world" (defArgs s_q3) (defBody s_q3) (defScope s_q3) .none kV_q3 dc_q3 pm_q3 an_q3 cd_q3 ct_q3),sl_q3⟩) (c_q3:PySem.W.codeIn K cd_q3 "moved_world"=true) (k_q3:PySem.W.keepIn K (.ref f_q3)=true)
    (a_q15:PySem.W.nsIn K mainGlobals "moved"=some (some (.ref f_q15))) (l_q15:K.lookup f_q15=some ⟨oc_q15,od_q15,.func (PySem.W.fnOf "moved" "moved" (defArgs s_q15) (defBody s_q15) (defScope s_q15) .none kV_q15 dc_q15 pm_q15 an_q15 cd_q15 ct_q15),sl_q15⟩) (c_q15:PySem.W.codeIn K cd_q15 "moved"=true) (k_q15:PySem.W.keepIn K (.ref f_q15)=true)
    (a_q14:PySem.W.nsIn K mainGlobals "folded"=some (some (.ref f_q14))) (l_q14:K.lookup f_q14=some ⟨oc_q14,od_q14,.func (PySem.W.fnOf "folded" "folded" (defArgs s_q14) (defBody s_q14) (defScope s_q14) .none kV_q14 dc_q14 pm_q14 an_q14 cd_q14 ct_q14),sl_q14⟩) (c_q14:PySem.W.codeIn K cd_q14 "folded"=true) (k_q14:PySem.W.keepIn K (.ref f_q14)=true)
    (a_q2:PySem.W.nsIn K mainGlobals "_law_saying"=some (some (.ref f_q2))) (l_q2:K.lookup f_q2=some ⟨oc_q2,od_q2,.func (PySem.W.fnOf "_law_saying" "_law_saying" (defArgs s_q2) (defBody s_q2) (defScope s_q2) .none kV_q2 dc_q2 pm_q2 an_q2 cd_q2 ct_q2),sl_q2⟩) (c_q2:PySem.W.codeIn K cd_q2 "_law_saying"=true) (k_q2:PySem.W.keepIn K (.ref f_q2)=true)
    (a_q1:PySem.W.nsIn K mainGlobals "_law_is_yard"=some (some (.ref f_q1))) (l_q1:K.lookup f_q1=some ⟨oc_q1,od_q1,.func (PySem.W.fnOf "_law_is_yard" "_law_is_yard" (defArgs s_q1) (defBody s_q1) (defScope s_q1) .none kV_q1 dc_q1 pm_q1 an_q1 cd_q1 ct_q1),sl_q1⟩) (c_q1:PySem.W.codeIn K cd_q1 "_law_is_yard"=true) (k_q1:PySem.W.keepIn K (.ref f_q1)=true)
    (a_q4:PySem.W.nsIn K mainGlobals "_law_holds"=some (some (.ref f_q4))) (l_q4:K.lookup f_q4=some ⟨oc_q4,od_q4,.func (PySem.W.fnOf "_law_holds" "_law_holds" (defArgs s_q4) (defBody s_q4) (defScope s_q4) .none kV_q4 dc_q4 pm_q4 an_q4 cd_q4 ct_q4),sl_q4⟩) (c_q4:PySem.W.codeIn K cd_q4 "_law_holds"=true) (k_q4:PySem.W.keepIn K (.ref f_q4)=true)
    (a_law:PySem.W.nsIn K mainGlobals "law"=some (some (.ref f_law))) (l_law:K.lookup f_law=some ⟨oc_law,od_law,.func (PySem.W.fnOf "law" "law" (defArgs s_law) (defBody s_law) (defScope s_law) .none kV_law dc_law pm_law an_law cd_law ct_law),sl_law⟩) (c_law:PySem.W.codeIn K cd_law "law"=true) (k_law:PySem.W.keepIn K (.ref f_law)=true)
    (z_len:PySem.W.nsIn K mainGlobals "len"=some none)
    (z_range:PySem.W.nsIn K mainGlobals "range"=some none)
    (z_enumerate:PySem.W.nsIn K mainGlobals "enumerate"=some none)
    (z_tuple:PySem.W.nsIn K mainGlobals "tuple"=some none)
    (z_sorted:PySem.W.nsIn K mainGlobals "sorted"=some none)
    (z_set:PySem.W.nsIn K mainGlobals "set"=some none)
    (z_dict:PySem.W.nsIn K mainGlobals "dict"=some none)
    (z_isinstance:PySem.W.nsIn K mainGlobals "isinstance"=some none)
    (z_list:PySem.W.nsIn K mainGlobals "list"=some none)
    (z_all:PySem.W.nsIn K mainGlobals "all"=some none)
    (z_bool:PySem.W.nsIn K mainGlobals "bool"=some none)
    (z_int:PySem.W.nsIn K mainGlobals "int"=some none)
   :∃ fd:FuncData,(∀ (s:Shared) (v:Value),BindsTo s fd ⟨[v],[]⟩ [("_law_script",v)])/\∀ base:Heap,Bas K mg base->FnOk l.prog w K mg base (CX1 l.prog w) 8 fa fd ["_law_script"] (spL K M_law):=by
  have e:=hfa.symm.trans (PySem.W.mg_of X G a_law)
  cases e
  have m_len:=PySem.W.mg_none_of X G z_len
  have m_range:=PySem.W.mg_none_of X G z_range
  have m_enumerate:=PySem.W.mg_none_of X G z_enumerate
  have m_tuple:=PySem.W.mg_none_of X G z_tuple
  have m_sorted:=PySem.W.mg_none_of X G z_sorted
  have m_set:=PySem.W.mg_none_of X G z_set
  have m_dict:=PySem.W.mg_none_of X G z_dict
  have m_isinstance:=PySem.W.mg_none_of X G z_isinstance
  have m_list:=PySem.W.mg_none_of X G z_list
  have m_all:=PySem.W.mg_none_of X G z_all
  have m_bool:=PySem.W.mg_none_of X G z_bool
  have m_int:=PySem.W.mg_none_of X G z_int
  obtain ⟨fd_q7,D_q7⟩:=def_mk (st:=s_q7) (ps:=ps_q7) X G a_q7 l_q7 c_q7 k_q7 λ _ _ _ _ _ _ us hl=>match us,hl with | [_,_],_=>rfl
  obtain ⟨fd_q11,D_q11⟩:=def_mk (st:=s_q11) (ps:=ps_q11) X G a_q11 l_q11 c_q11 k_q11 λ _ _ _ _ _ _ us hl=>match us,hl with | [_,_,_],_=>rfl
  obtain ⟨fd_q9,D_q9⟩:=def_mk (st:=s_q9) (ps:=ps_q9) X G a_q9 l_q9 c_q9 k_q9 λ _ _ _ _ _ _ us hl=>match us,hl with | [_,_,_],_=>rfl
  obtain ⟨fd_q0,D_q0⟩:=def_mk (st:=s_q0) (ps:=ps_q0) X G a_q0 l_q0 c_q0 k_q0 λ _ _ _ _ _ _ us hl=>match us,hl with | [_],_=>rfl
  obtain ⟨fd_q13,D_q13⟩:=def_mk (st:=s_q13) (ps:=ps_q13) X G a_q13 l_q13 c_q13 k_q13 λ _ _ _ _ _ _ us hl=>match us,hl with | [_,_,_],_=>rfl
  obtain ⟨fd_q12,D_q12⟩:=def_mk (st:=s_q12) (ps:=ps_q12) X G a_q12 l_q12 c_q12 k_q12 λ _ _ _ _ _ _ us hl=>match us,hl with | [_,_,_],_=>rfl
  obtain ⟨fd_q5,D_q5⟩:=def_mk (st:=s_q5) (ps:=ps_q5) X G a_q5 l_q5 c_q5 k_q5 λ _ _ _ _ _ _ us hl=>match us,hl with | [_,_],_=>rfl
  obtain ⟨fd_q6,D_q6⟩:=def_mk (st:=s_q6) (ps:=ps_q6) X G a_q6 l_q6 c_q6 k_q6 λ _ _ _ _ _ _ us hl=>match us,hl with | [_],_=>rfl
  obtain ⟨fd_q10,D_q10⟩:=def_mk (st:=s_q10) (ps:=ps_q10) X G a_q10 l_q10 c_q10 k_q10 λ _ _ _ _ _ _ us hl=>match us,hl with | [_],_=>rfl
  obtain ⟨fd_q8,D_q8⟩:=def_mk (st:=s_q8) (ps:=ps_q8) X G a_q8 l_q8 c_q8 k_q8 λ _ _ _ _ _ _ us hl=>match us,hl with | [_,_],_=>rfl
  obtain ⟨fd_q3,D_q3⟩:=def_mk (st:=s_q3) (ps:=ps_q3) X G a_q3 l_q3 c_q3 k_q3 λ _ _ _ _ _ _ us hl=>match us,hl with | [_,_],_=>rfl
  obtain ⟨fd_q15,D_q15⟩:=def_mk (st:=s_q15) (ps:=ps_q15) X G a_q15 l_q15 c_q15 k_q15 λ _ _ _ _ _ _ us hl=>match us,hl with | [_,_,_],_=>rfl
  obtain ⟨fd_q14,D_q14⟩:=def_mk (st:=s_q14) (ps:=ps_q14) X G a_q14 l_q14 c_q14 k_q14 λ _ _ _ _ _ _ us hl=>match us,hl with | [_],_=>rfl
  obtain ⟨fd_q2,D_q2⟩:=def_mk (st:=s_q2) (ps:=ps_q2) X G a_q2 l_q2 c_q2 k_q2 λ _ _ _ _ _ _ us hl=>match us,hl with | [_,_],_=>rfl
  obtain ⟨fd_q1,D_q1⟩:=def_mk (st:=s_q1) (ps:=ps_q1) X G a_q1 l_q1 c_q1 k_q1 λ _ _ _ _ _ _ us hl=>match us,hl with | [_],_=>rfl
  obtain ⟨fd_q4,D_q4⟩:=def_mk (st:=s_q4) (ps:=ps_q4) X G a_q4 l_q4 c_q4 k_q4 λ _ _ _ _ _ _ us hl=>match us,hl with | [_,_,_],_=>rfl
  have D_law:Def K mg "law" s_law ps_law fa (PySem.W.fnOf "law" "law" (defArgs s_law) (defBody s_law) (defScope s_law) .none kV_law dc_law pm_law an_law cd_law ct_law):=⟨fun_mk l_law c_law k_law,(fun_mk (st:=s_law) l_law c_law k_law).binds λ _ _ _ _ _ _ us hl=>match us,hl with | [_],_=>rfl,PySem.W.mg_of X G a_law⟩
  refine ⟨PySem.W.fnOf "law" "law" (defArgs s_law) (defBody s_law) (defScope s_law) .none kV_law dc_law pm_law an_law cd_law ct_law,λ s v=>.of_eq rfl,?_⟩
  have F_q7:=λ (base:Heap) (bas:Bas K mg base)=>ok_q7 (P:=l.prog) (w:=w) (base:=base) (k:=0) D_q7 m_len
  have F_q11:=λ (base:Heap) (bas:Bas K mg base)=>ok_q11 (P:=l.prog) (w:=w) (base:=base) (k:=0) D_q11 
  have F_q9:=λ (base:Heap) (bas:Bas K mg base)=>ok_q9 (P:=l.prog) (w:=w) (base:=base) (k:=1) D_q9 D_q7 ((F_q7 base bas).mono (by omega)) D_q11 ((F_q11 base bas).mono (by omega)) m_range m_enumerate m_tuple
  have F_q0:=λ (base:Heap) (bas:Bas K mg base)=>FnOk.imp (ok_q0 (P:=l.prog) (w:=w) (base:=base) (k:=0) D_q0 m_enumerate) λ vs H Q E h=>spF_parW (F:=λ ww ds=>callR N_q0 (B_q0 ww) ds) h
  have F_q13:=λ (base:Heap) (bas:Bas K mg base)=>ok_q13 (P:=l.prog) (w:=w) (base:=base) (k:=0) D_q13 
  have F_q12:=λ (base:Heap) (bas:Bas K mg base)=>ok_q12 (P:=l.prog) (w:=w) (base:=base) (k:=1) D_q12 D_q13 ((F_q13 base bas).mono (by omega)) m_tuple m_range m_sorted m_set
  have F_q5:=λ (base:Heap) (bas:Bas K mg base)=>ok_q5 (P:=l.prog) (w:=w) (base:=base) (k:=2) D_q5 D_q0 ((F_q0 base bas).mono (by omega)) D_q12 ((F_q12 base bas).mono (by omega)) m_enumerate
  have F_q6:=λ (base:Heap) (bas:Bas K mg base)=>ok_q6 (P:=l.prog) (w:=w) (base:=base) (k:=3) D_q6 D_q0 ((F_q0 base bas).mono (by omega)) D_q5 ((F_q5 base bas).mono (by omega)) 
  have F_q10:=λ (base:Heap) (bas:Bas K mg base)=>ok_q10 (P:=l.prog) (w:=w) (base:=base) (k:=4) D_q10 D_q6 ((F_q6 base bas).mono (by omega)) m_tuple
  have F_q8:=λ (base:Heap) (bas:Bas K mg base)=>FnOk.imp (ok_q8 (P:=l.prog) (w:=w) (base:=base) (k:=0) D_q8 m_tuple m_sorted m_set) λ vs H Q E h=>spK_parW (F:=λ ww ds=>callK ww [false,true] N_q8 (B_q8 ww) ds) h
  have F_q3:=λ (base:Heap) (bas:Bas K mg base)=>FnOk.imp (ok_q3 (P:=l.prog) (w:=w) (base:=base) (k:=1) D_q3 D_q8 ((F_q8 base bas).mono (by omega)) m_tuple) λ vs H Q E h=>spK_parW (F:=λ ww ds=>callK ww [false,true] N_q3 (B_q3 ww M_q8) ds) h
  have F_q15:=λ (base:Heap) (bas:Bas K mg base)=>FnOk.imp (ok_q15 (P:=l.prog) (w:=w) (base:=base) (k:=2) D_q15 D_q3 ((F_q3 base bas).mono (by omega)) m_tuple) λ vs H Q E h=>spK_parW (F:=λ ww ds=>callK ww [false,false,true] N_q15 (B_q15 ww M_q3) ds) h
  have F_q14:=λ (base:Heap) (bas:Bas K mg base)=>FnOk.imp (ok_q14 (P:=l.prog) (w:=w) (base:=base) (k:=5) D_q14 D_q10 ((F_q10 base bas).mono (by omega)) D_q15 ((F_q15 base bas).mono (by omega)) m_sorted m_set m_dict m_enumerate) λ vs H Q E h=>spF_parW (F:=λ ww ds=>callR N_q14 (B_q14 ww M_q10 M_q15) ds) h
  have R_q2:∀ base:Heap,Bas K mg base->∀ n,FnOk l.prog w K mg base (CX1 l.prog w) (1 + n) f_q2 fd_q2 ps_q2 (spF K mg ps_q2.length (M_q2 n)):=λ base bas n=>by
    induction n with
    | zero=>exact fn_none
    | succ n IH=>exact ok_q2 (k:=1 + n) D_q2 D_q11 ((F_q11 base bas).mono (by omega)) IH 
  have F_q2:=λ (base:Heap) (bas:Bas K mg base)=>R_q2 base bas 6
  have F_q1:=λ (base:Heap) (bas:Bas K mg base)=>ok_q1 (P:=l.prog) (w:=w) (base:=base) (k:=0) D_q1 m_len m_isinstance m_tuple m_list m_sorted m_set m_all m_bool m_int
  have R_q4:∀ base:Heap,Bas K mg base->∀ n,FnOk l.prog w K mg base (CX1 l.prog w) (0 + n) f_q4 fd_q4 ps_q4 (spF K mg ps_q4.length (M_q4 n)):=λ base bas n=>by
    induction n with
    | zero=>exact fn_none
    | succ n IH=>exact ok_q4 (k:=0 + n) D_q4 IH 
  have F_q4:=λ (base:Heap) (bas:Bas K mg base)=>R_q4 base bas 6
  have F_law:=λ (base:Heap) (bas:Bas K mg base)=>ok_law (P:=l.prog) (w:=w) (base:=base) (k:=7) D_law D_q7 ((F_q7 base bas).mono (by omega)) D_q9 ((F_q9 base bas).mono (by omega)) D_q14 ((F_q14 base bas).mono (by omega)) D_q10 ((F_q10 base bas).mono (by omega)) D_q1 ((F_q1 base bas).mono (by omega)) D_q2 ((F_q2 base bas).mono (by omega)) D_q4 ((F_q4 base bas).mono (by omega)) m_range m_len m_enumerate m_tuple m_sorted m_set m_all m_list
  exact λ base bas=>FnOk.toL (F_law base bas)
end K11

namespace K11
open PySem PySem.Spec PyProof.Rows L2 Wy Wl Lw Pg L11
theorem law_true (ns:List Int) (hn:ns.length<=63):M_law [.lst (ns.map D.int)]=.ok (.bl true):=L11.law_ok ns hn
end K11

open PySem PySem.W PyProof.Rows
set_option maxRecDepth 100000 in
set_option maxHeartbeats 0 in
theorem PySem.Challenge.cw_worldyard_k11_whole_folded_holds : PySem.Challenge.rw_worldyard_k11_whole_folded.Holds := by
  w_on; o_law; k_head; (case hw=>w_witness2)
  k_fill
  refine Wy.walk (l:=PySem.Challenge.rw_worldyard_k11_whole_folded) (CX:=λ w=>Wy.CX1 PySem.Challenge.rw_worldyard_k11_whole_folded.prog w) (k:=8) (x:="_law_script") (F:=K11.M_law) rfl rfl ⟨rfl,by decide,by decide⟩ (λ w h Y=>PySem.W.kIn_of Y) K11.law_true ?T ?F (λ _ _ _ _ _ z=>Wy.cx1_E0 z)
  case T =>
    exact λ w lo mean mg mb h T X=>Wy.tabs0_of T X (Wy.tabs_one (by kernel_rfl))
  case F =>
    intro w mg fa h KX G hmg
    refine' K11.all_mk KX G hmg ?a_q7 ?l_q7 ?c_q7 ?k_q7 ?a_q11 ?l_q11 ?c_q11 ?k_q11 ?a_q9 ?l_q9 ?c_q9 ?k_q9 ?a_q0 ?l_q0 ?c_q0 ?k_q0 ?a_q13 ?l_q13 ?c_q13 ?k_q13 ?a_q12 ?l_q12 ?c_q12 ?k_q12 ?a_q5 ?l_q5 ?c_q5 ?k_q5 ?a_q6 ?l_q6 ?c_q6 ?k_q6 ?a_q10 ?l_q10 ?c_q10 ?k_q10 ?a_q8 ?l_q8 ?c_q8 ?k_q8 ?a_q3 ?l_q3 ?c_q3 ?k_q3 ?a_q15 ?l_q15 ?c_q15 ?k_q15 ?a_q14 ?l_q14 ?c_q14 ?k_q14 ?a_q2 ?l_q2 ?c_q2 ?k_q2 ?a_q1 ?l_q1 ?c_q1 ?k_q1 ?a_q4 ?l_q4 ?c_q4 ?k_q4 ?a_law ?l_law ?c_law ?k_law ?z_len ?z_range ?z_enumerate ?z_tuple ?z_sorted ?z_set ?z_dict ?z_isinstance ?z_list ?z_all ?z_bool ?z_int
    (case a_q7=>k_is)
    (case l_q7=>k_is)
    (case c_q7=>k_is)
    (case k_q7=>k_is)
    (case a_q11=>k_is)
    (case l_q11=>k_is)
    (case c_q11=>k_is)
    (case k_q11=>k_is)
    (case a_q9=>k_is)
    (case l_q9=>k_is)
    (case c_q9=>k_is)
    (case k_q9=>k_is)
    (case a_q0=>k_is)
    (case l_q0=>k_is)
    (case c_q0=>k_is)
    (case k_q0=>k_is)
    (case a_q13=>k_is)
    (case l_q13=>k_is)
    (case c_q13=>k_is)
    (case k_q13=>k_is)
    (case a_q12=>k_is)
    (case l_q12=>k_is)
    (case c_q12=>k_is)
    (case k_q12=>k_is)
    (case a_q5=>k_is)
    (case l_q5=>k_is)
    (case c_q5=>k_is)
    (case k_q5=>k_is)
    (case a_q6=>k_is)
    (case l_q6=>k_is)
    (case c_q6=>k_is)
    (case k_q6=>k_is)
    (case a_q10=>k_is)
    (case l_q10=>k_is)
    (case c_q10=>k_is)
    (case k_q10=>k_is)
    (case a_q8=>k_is)
    (case l_q8=>k_is)
    (case c_q8=>k_is)
    (case k_q8=>k_is)
    (case a_q3=>k_is)
    (case l_q3=>k_is)
    (case c_q3=>k_is)
    (case k_q3=>k_is)
    (case a_q15=>k_is)
    (case l_q15=>k_is)
    (case c_q15=>k_is)
    (case k_q15=>k_is)
    (case a_q14=>k_is)
    (case l_q14=>k_is)
    (case c_q14=>k_is)
    (case k_q14=>k_is)
    (case a_q2=>k_is)
    (case l_q2=>k_is)
    (case c_q2=>k_is)
    (case k_q2=>k_is)
    (case a_q1=>k_is)
    (case l_q1=>k_is)
    (case c_q1=>k_is)
    (case k_q1=>k_is)
    (case a_q4=>k_is)
    (case l_q4=>k_is)
    (case c_q4=>k_is)
    (case k_q4=>k_is)
    (case a_law=>k_is)
    (case l_law=>k_is)
    (case c_law=>k_is)
    (case k_law=>k_is)
    (case z_len=>k_is)
    (case z_range=>k_is)
    (case z_enumerate=>k_is)
    (case z_tuple=>k_is)
    (case z_sorted=>k_is)
    (case z_set=>k_is)
    (case z_dict=>k_is)
    (case z_isinstance=>k_is)
    (case z_list=>k_is)
    (case z_all=>k_is)
    (case z_bool=>k_is)
    (case z_int=>k_is)

