import PyProof.Rows.All
import Wide.All
import OpenK.AllK
import Wide.FinOn
import Lean
import PyProof.EqAt
import PyProof.EqKinds
import PyProof.TupleCall
import PySem.Challenge.RW_paidspan_k61_lines_of_a_book
abbrev Ja:=@List.length_map
abbrev Jb:=@List.getElem?_eq_getElem
abbrev Jc:=@List.getElem?_eq_some_iff
abbrev Jd:=@List.map_append
abbrev Je:=@Nat.le_refl
abbrev Jf:=@if_neg
abbrev Jg:=@if_pos
abbrev Jh:=@List.getElem?_map
abbrev Ji:=@List.mem_of_getElem?
abbrev Jj:=@List.length_append
abbrev Jk:=@Option.map_eq_some_iff
abbrev Jl:=@List.mem_cons_of_mem
abbrev Jm:=@List.mem_singleton
abbrev Jn:=@List.size_toArray
abbrev Jo:=@List.getD_eq_getElem?_getD
abbrev Jp:=@List.length_cons
abbrev Jq:=@List.mem_cons_self
abbrev Jr:=@List.mem_append
abbrev Js:=@Bool.false_eq_true
abbrev Jt:=@List.append_nil
abbrev Ju:=@Bool.false_ne_true
abbrev Jv:=@Nat.zero_le
abbrev Jw:=@List.mem_map
abbrev Jx:=@Array.length_toList
abbrev Jy:=@Nat.lt_of_lt_of_le
abbrev Jz:=@Int.le_refl
abbrev JA:=@List.map_cons
abbrev JB:=@List.length_take
abbrev JC:=@List.take_length
abbrev JD:=@List.mem_cons
abbrev JE:=@Nat.le_trans
abbrev JF:=@Int.toNat_natCast
abbrev JG:=@Array.getElem?_toList
abbrev JH:=@List.take_add_one
abbrev JI:=@List.length_range
abbrev JJ:=@Int.add_zero
abbrev JK:=@Nat.ne_of_lt
abbrev JL:=@Int.emod_lt_of_pos
abbrev JM:=@List.append_assoc
abbrev JN:=@Int.emod_nonneg
abbrev JO:=@decide_eq_true
abbrev JP:=@decide_eq_false
abbrev JQ:=@List.range_succ
abbrev JR:=@List.map_nil
abbrev JS:=@Int.zero_add
abbrev JT:=@List.filter_append
abbrev JU:=@List.filter_cons
abbrev JV:=@Option.some.inj
abbrev JW:=@PySem.wpAny_bind
abbrev JX:=@PySem.wpAny_pure
abbrev JY:=@PyProof.Rows.wpS_bind
abbrev JZ:=@PyProof.Rows.wpS_pure
abbrev Qa:=@PySem.Heap.get?_push_of_some
abbrev Qb:=@PySem.Heap.lt_size
abbrev Qc:=@PySem.Heap.get?_push_size
abbrev Qd:=@PySem.Heap.get?_update_other
abbrev Fg:=PySem.W.Frag
set_option compiler.extract_closed false
local macro_rules | `('o') => `(by omega)
local macro_rules | `('d') => `(by decide)
local macro_rules | `(tactic| omega) => `(tactic| lia)
set_option Elab.async false
set_option linter.all false
set_option maxRecDepth 100000
namespace L2
open PySem PySem.Spec PyProof.Rows
variable{us:List Value}{H:Hp}{a b C:Addr}{o:HO}{u:Value}{P:Program}{w:World}{h base:Heap}{t' i n:Nat}{ch fp:List Addr}{x:Str}{e c tg:Expr}{M:Model}{A:Around}{E:Value->Shared->Prop}{v y:V}{Q:Unit->Shared->Prop}{s:Shared}{pins:List (Addr×Obj)}{σ:St}{K:Fg}{te:TE}{g:TG}{op:Operator}{body:List Stmt}{tb:TS}{vs:List V}{pl:Sem Bool}{r:R2}{kw:List (Str×Value)}{CX:CXT}{ps:List Str}{kindOf:Str->Option NameKind}
abbrev Key:=Sum Int Str
def vd:Key->Value->Bool
 | .inl k,v=>Value.isInt k v
 | .inr x,v=>Value.isStrOf x v
def zqM(w:World):Key->Int
 | .inl k=>hashInt k
 | .inr x=>hashStr w x
theorem xq: ∀{k:Key} {v:Value},vd k v=true->(∃i t,k=Sum.inl i/\v=Value.int i t)\/(∃x t,k=Sum.inr x/\v=Value.str x t)
 | .inl i,v,h=>by
  obtain⟨t,e⟩:=Value.isInt_shape (k:=i) (v:=v) h;exact .inl ⟨i,t,rfl,e⟩
 | .inr x,v,h=>by
  obtain⟨t,e⟩:=Value.isStrOf_shape (x:=x) (v:=v) h;exact .inr ⟨x,t,rfl,e⟩
theorem zjD(i:Int)(t:Tok):vd (.inl i) (.int i t)=true:=by simp [vd,Value.isInt]
theorem zjE(x:Str)(t:Tok):vd (.inr x) (.str x t)=true:=by simp [vd,Value.isStrOf]
theorem znX(a b:Int):decide ((Sum.inl a:Key)=Sum.inl b)=(a==b):=by
 by_cases e:a=b
 ·subst e;simp
 ·have h: ¬(Sum.inl a:Key)=Sum.inl b:=λq=>e (Sum.inl.inj q);rw[JP h];exact(beq_eq_false_iff_ne.mpr e).symm
theorem znY(a b:Str):decide ((Sum.inr a:Key)=Sum.inr b)=decide (a=b):=by
 by_cases e:a=b
 ·subst e;simp
 ·have h: ¬(Sum.inr a:Key)=Sum.inr b:=λq=>e (Sum.inr.inj q);rw[JP h,JP e]
theorem znZ(a:Int)(b:Str):decide ((Sum.inl a:Key)=Sum.inr b)=false:=JP (λq=>nomatch q)
theorem zn0(a:Str)(b:Int):decide ((Sum.inr a:Key)=Sum.inl b)=false:=JP (λq=>nomatch q)
def yy(prog:Program)(w:World):PySem.KeyKind prog w Key where
 is:=vd
 hash:=zqM w
 inj:=λv a b ha hb=>by
  rcases xq ha with⟨i,t,rfl,rfl⟩|⟨x,t,rfl,rfl⟩
  ·rcases xq hb with⟨j,u,rfl,e⟩|⟨y,u,rfl,e⟩
   ·injection e with e1 _;rw[e1]
   ·exact nomatch e
  ·rcases xq hb with⟨j,u,rfl,e⟩|⟨y,u,rfl,e⟩
   ·exact nomatch e
   ·injection e with e1 _;rw[e1]
 byValue:=λk v h=>by
  rcases xq h with⟨i,t,rfl,rfl⟩|⟨x,t,rfl,rfl⟩<;>rfl
 pyHash:=λhv h=>by
  rcases xq hv with⟨i,t,rfl,rfl⟩|⟨x,t,rfl,rfl⟩
  ·exact wpAny_pyHash_int h
  ·exact wpAny_pyHash_str h
 eqBool:=λhu hv h=>by
  rcases xq hu with⟨i,t,rfl,rfl⟩|⟨x,t,rfl,rfl⟩
  ·rcases xq hv with⟨j,u,rfl,rfl⟩|⟨y,u,rfl,rfl⟩
   ·rw[znX] at h;exact wpAny_eqBool_int h
   ·rw[znZ] at h;exact SeqAt.EqAt.int_str i t y u _ _ _ _ h
  ·rcases xq hv with⟨j,u,rfl,rfl⟩|⟨y,u,rfl,rfl⟩
   ·rw[zn0] at h;exact SeqAt.EqAt.str_int x t j u _ _ _ _ h
   ·rw[znY] at h;exact wpAny_eqBool_str h
 «strs» :=λk x t v h=>by
  rcases xq h with⟨i,u,rfl,e⟩|⟨y,u,rfl,e⟩
  ·exact nomatch e
  ·injection e with e1 _
   subst e1
   cases v<;>rfl
theorem zg5(prog:Program)(w:World)(i:Int)(t:Tok):(yy prog w).is (.inl i) (.int i t)=true:=zjD i t
theorem zg6(prog:Program)(w:World)(x:Str)(t:Tok):(yy prog w).is (.inr x) (.str x t)=true:=zjE x t
inductive V where
 |non|bl (b:Bool)|int (i:Int)|str (x:Str)|byt (b:Array UInt8)|flt (b:UInt64)|ref (a:Addr)|ty (n:String)
 deriving DecidableEq
def zw:V->Value->Prop
 | .non,u=>u=Value.none
 | .bl b,u=>u=Value.bool b
 | .int i,u=> ∃t,u=Value.int i t
 | .str x,u=> ∃t,u=Value.str x t
 | .byt b,u=> ∃t,u=Value.bytes b t
 | .flt b,u=> ∃t,u=Value.float b t
 | .ref a,u=>u=Value.ref a
 | .ty n,u=>u=Value.type n
abbrev zB:List V->List Value->Prop:=Paired zw
theorem zB.length{xs:List V}{us:List Value}(r:zB xs us):xs.length=us.length:=Paired.length r
theorem zB.get: ∀{xs:List V} {us:List Value} {i:Nat} {x:V},zB xs us->xs[i]? =some x-> ∃u,us[i]? =some u/\zw x u
 |_,_,_,_, .nil,e=>by simp at e
 |_,_,0,_, .cons r _,e=>by simp at e;subst e;exact⟨_,rfl,r⟩
 |_,_,i+1,x, .cons _ t,e=>by
  obtain⟨u,h1,h2⟩:=zB.get (i:=i) (x:=x) t (by simpa using e);exact⟨u,by simpa using h1,h2⟩
theorem zB.append: ∀{xs ys:List V} {us ws:List Value},zB xs us->zB ys ws->zB (xs++ys) (us++ws)
 |_,_,_,_, .nil,s=>s
 |_,_,_,_, .cons r t,s=> .cons r (zB.append t s)
theorem zB.take: ∀{xs:List V} {us:List Value} (n:Nat),zB xs us->zB (xs.take n) (us.take n)
 |_,_,0,_=> .nil
 |_,_,_+1, .nil=> .nil
 |_,_,n+1, .cons r t=> .cons r (zB.take n t)
theorem zB.drop: ∀{xs:List V} {us:List Value} (n:Nat),zB xs us->zB (xs.drop n) (us.drop n)
 |_,_,0,r=>r
 |_,_,_+1, .nil=> .nil
 |_,_,n+1, .cons _ t=>zB.drop n t
def qa:Option V->Option Value->Prop
 |some v,some u=>zw v u
 |none,none=>True
 |_,_=>False
def KV{κ:Type}:List (κ×V)->List (κ×Value)->Prop:=Paired λ(p:κ×V) (q:κ×Value)=>p.1=q.1/\zw p.2 q.2
def kV:Key->V
 | .inl i=> .int i
 | .inr x=> .str x
inductive HO where
 |lst (xs:List V)
 |tup (xs:List V)
 |dK (kvs:List (Key×V))|dT (kvs:List (List Key×V))
 |set (S:Int->Bool) (n:Nat)
 |ins (C dx:Addr) (fs:List (Str×V))
 |own (x:Addr)
 |xd (fs:List (Str×V))
 |met (f x:Addr)
 |rng (lo hi:Int)
 |frz (o:Obj) (u:HO)
 |tbl (ps:Array Value)
 |ext (φ:Heap->Prop)
abbrev Hp:=Addr->Option HO
def upd(H:Hp)(a:Addr)(o:HO):Hp:=λb=>if b=a then some o else H b
theorem zF:upd H a o a=some o:=by unfold upd;rw[Jg rfl]
theorem zu(h:b≠a):upd H a o b=H b:=by unfold upd;rw[Jf h]
theorem zpT{u:HO}(h:H a=some o)(h':H b=some u)(d:o≠u):a≠b:=by
 intro e;subst e;rw[h] at h';exact d (JV h')
theorem yZ(h:H a=some o)(h':H b=none):a≠b:=by
 intro e;subst e;rw[h] at h';cases h'
section
variable (P:Program) (w:World)
def z6(H:Hp)(h:Heap)(a:Addr):HO->Prop
 | .lst xs=>xs.length<=sizeLine/\ ∃(its:List Value) (n:Nat),zB xs its/\h.get? a=some {cls:= .type "list",data:= .seq its.toArray n}
 | .tup xs=>xs.length<=sizeLine/\ ∃its:List Value,zB xs its/\IsTup h a its.toArray
 | .dK kvs=>kvs.length<=sizeLine/\(a==sysModules)=false/\ ∃vs,KV kvs vs/\h.DictOf (yy P w) a vs
 | .dT kvs=>kvs.length<=sizeLine/\(a==sysModules)=false/\ ∃xs:List (List Key×Addr×Value),
   Paired (λ(p:List Key×V) (q:List Key×Addr×Value)=>p.1=q.1/\H q.2.1=some (.tup (p.1.map kV))/\zw p.2 q.2.2) kvs xs/\
   ∃o es ep,h.get? a=some o/\o.ExactDict/\o.data= .dict es ep/\es.toList=xs.map (entryOfKey (tupleKind (yy P w)))/\(xs.map (·.1)).Nodup
 | .set S n=>h.SetOf (intKind P w) a S n
 | .ins C dx fs=>H dx=some (.own a)/\fs.length<=1000/\dx≠a/\h.get? a=some (PySem.W.instObj C dx)/\
   ∃mA,h.Ns1 dx mA/\(∀f,qa (fs.lookup f) (mA f))/\PySem.Within mA (fs.map (·.1))
 | .own _=> ∃o,h.get? a=some o
 | .xd fs=> ∃mA,h.Ns1 a mA/\ ∀f,qa (fs.lookup f) (mA f)
 | .rng lo hi=> ∃t u v,h.get? a=some {cls:= .type "range",data:= .fields #[.int lo t, .int hi u, .int 1 v]}
 | .frz o u=>h.get? a=some o/\z6 H h a u
 | .tbl ps=>h.get? a=some {cls:= .none,data:= .fields ps}
 | .met f x=>h.get? a=some (PySem.W.methodObj (.ref f) (.ref x))
 | .ext φ=>φ h/\(∃o,h.get? a=some o)/\ ∀h1 h2:Heap,φ h1->(∀o,h1.get? a=some o->h2.get? a=some o)->φ h2
def HOk(H:Hp)(h:Heap):Prop:= ∀a o,H a=some o->z6 P w H h a o
end
section
variable {P:Program} {w:World} {H H':Hp} {h h':Heap} {a:Addr} {o:HO}
theorem z6.lt(x:z6 P w H h a o):a<h.objs.size:=by
 cases o with
 |lst xs=>obtain⟨_,_,_,_,e⟩:=x;exact Qb e
 |tup xs=>obtain⟨_,_,_,p⟩:=x;exact p.lt
 |dK kvs=>obtain⟨_,_,_,_,o,_,_,e,_⟩:=x;exact Qb e
 |dT kvs=>obtain⟨_,_,_,_,o,_,_,e,_⟩:=x;exact Qb e
 |set S n=>obtain⟨o,_,_,_,e,_⟩:=x;exact Qb e
 |ins C dx fs=>obtain⟨_,_,_,e,_⟩:=x;exact Qb e
 |own y=>obtain⟨_,e⟩:=x;exact Qb e
 |xd fs=>obtain⟨_,⟨_,_,_,e,_⟩,_⟩:=x;exact Qb e
 |rng lo hi=>obtain⟨_,_,_,e⟩:=x;exact Qb e
 |frz ob u=>obtain⟨e,_⟩:=x;exact Qb e
 |tbl ps=>exact Qb (show h.get? a=some _ from x)
 |met f y=>exact Qb (show h.get? a=some _ from x)
 |ext φ=>obtain⟨_,⟨_,e⟩,_⟩:=x;exact Qb e
theorem Paired.mapP{α β:Type}{F G:α->β->Prop}: ∀{l₁:List α} {l₂:List β},Paired F l₁ l₂->(∀a b,F a b->G a b)->Paired G l₁ l₂
 |_,_, .nil,_=> .nil
 |_,_, .cons r t,f=> .cons (f _ _ r) (Paired.mapP t f)
theorem z6.stay(x:z6 P w H h a o)(k: ∀b u,(b=a\/H b=some (.own a))->h.get? b=some u->h'.get? b=some u)
  (ho: ∀b,H b=some (.own a)->H' b=some (.own a)) (ht: ∀b xs,H b=some (.tup xs)->H' b=some (.tup xs)):z6 P w H' h' a o:=by
 induction o with
 |lst xs=>obtain⟨z,its,n,r,e⟩:=x;exact⟨z,its,n,r,k _ _ (.inl rfl) e⟩
 |tup xs=>obtain⟨z,its,r,ob,e,c⟩:=x;exact⟨z,its,r,ob,k _ _ (.inl rfl) e,c⟩
 |dK kvs=>obtain⟨z,y,vs,r,ob,es,ep,e,c⟩:=x;exact⟨z,y,vs,r,ob,es,ep,k _ _ (.inl rfl) e,c⟩
 |dT kvs=>
  obtain⟨z,y,xs,r,ob,es,ep,e,c⟩:=x;exact⟨z,y,xs,Paired.mapP r λp q z=>⟨z.1,ht _ _ z.2.1,z.2.2⟩,ob,es,ep,k _ _ (.inl rfl) e,c⟩
 |set S n=>obtain⟨ob,es,ep,t,e,c⟩:=x;exact⟨ob,es,ep,t,k _ _ (.inl rfl) e,c⟩
 |ins C dx fs=>
  obtain⟨d,z,ne,e,mA,⟨od,es,ep,e2,c⟩,r⟩:=x;exact⟨ho _ d,z,ne,k _ _ (.inl rfl) e,mA,⟨od,es,ep,k _ _ (.inr d) e2,c⟩,r⟩
 |own y=>obtain⟨ob,e⟩:=x;exact⟨ob,k _ _ (.inl rfl) e⟩
 |xd fs=>obtain⟨mA,⟨od,es,ep,e,c⟩,r⟩:=x;exact⟨mA,⟨od,es,ep,k _ _ (.inl rfl) e,c⟩,r⟩
 |rng lo hi=>obtain⟨t,u,v,e⟩:=x;exact⟨t,u,v,k _ _ (.inl rfl) e⟩
 |frz ob u ih=>obtain⟨e,q⟩:=x;exact⟨k _ _ (.inl rfl) e,ih q⟩
 |tbl ps=>
  have e:h.get? a=some {cls:= .none,data:= .fields ps}:=x;show h'.get? a=some {cls:= .none,data:= .fields ps};exact k a _ (.inl rfl) e
 |met f y=>
  have e:h.get? a=some (PySem.W.methodObj (.ref f) (.ref y)):=x;show h'.get? a=some (PySem.W.methodObj (.ref f) (.ref y));exact k a _ (.inl rfl) e
 |ext φ=>obtain⟨p,⟨o,e⟩,st⟩:=x;exact⟨st _ _ p λo q=>k _ _ (.inl rfl) q,⟨o,k _ _ (.inl rfl) e⟩,st⟩
theorem HOk.lt(x:HOk P w H h)(e:H a=some o):a<h.objs.size:=(x a o e).lt
theorem HOk.fresh(x:HOk P w H h)(e:h.objs.size<=a):H a=none:=by
 cases q:H a with
 |none=>rfl
 |some u=>exact absurd (Jy (x.lt q) e) (Nat.lt_irrefl _)
theorem HOk.kept(x:HOk P w H h)(k: ∀b u,h.get? b=some u->h'.get? b=some u):HOk P w H h':=λa o e=>
 (x a o e).stay (λb u _ q=>k b u q) (λ_ q=>q) λ_ _ q=>q
theorem HOk.laid(x:HOk P w H h)(k: ∀b u,h.get? b=some u->h'.get? b=some u)(hp:h.objs.size<=a)(new:z6 P w (upd H a o) h' a o):HOk P w (upd H a o) h':=λb u e=>by
 have hn:=x.fresh hp;by_cases hb:b=a
 ·subst hb;rw[zF] at e;cases e;exact new
 ·rw[zu hb] at e;exact(x b u e).stay (λc v _ q=>k c v q) (λc q=>by rw[zu (yZ q hn)];exact q) λc xs q=>by rw[zu (yZ q hn)];exact q
end
def Rd(H:Hp)(a:Addr)(u:HO):Prop:=H a=some u\/ ∃o,H a=some (.frz o u)
theorem Rd.of{u:HO}(h:H a=some u):Rd H a u:= .inl h
theorem Rd.ok{u:HO}(r:Rd H a u)(x:HOk P w H h):z6 P w H h a u:=by
 rcases r with r|⟨o,r⟩
 ·exact x a u r
 ·obtain⟨_,q⟩:=x a _ r;exact q
def Mut:Option HO->Prop
 |some (.lst _)=>True
 |some (.dK _)=>True
 |some (.dT _)=>True
 |some (.set _ _)=>True
 |some (.ins _ _ _)=>True
 |some (.ext _)=>True
 |_=>False
section
variable {P:Program} {w:World} {H:Hp} {h h':Heap} {x e:Addr} {o':HO}
theorem HOk.write(ok:HOk P w H h)(mu:Mut (H x))(he:e=x\/H e=some (.own x))(k: ∀b u,b≠e->h.get? b=some u->h'.get? b=some u)(heo: ∃u,h'.get? e=some u)
  (new:z6 P w (upd H x o') h' x o'):HOk P w (upd H x o') h':=λb u q=>by
 have nown: ∀c y,H c=some (.own y)->c≠x:=λc y r z=>by subst z;rw[r] at mu;exact mu
 have ntup: ∀c xs,H c=some (.tup xs)->c≠x:=λc xs r z=>by subst z;rw[r] at mu;exact mu
 by_cases hb:b=x
 ·subst hb;rw[zF] at q;cases q;exact new
 ·rw[zu hb] at q;by_cases hbe:b=e
  ·have q':H b=some (.own x):=by
    rcases he with z|z
    ·exact absurd (hbe.trans z) hb
    ·rw[hbe];exact z
   rw[q] at q';cases q';obtain⟨v,hv⟩:=heo;exact⟨v,by rw[hbe];exact hv⟩
  ·refine(ok b u q).stay (λc v hc r=>k c v ?_ r) (λc r=>by rw[zu (nown c b r)];exact r) λc xs r=>by rw[zu (ntup c xs r)];exact r
   rcases hc with rfl|hc
   ·exact hbe
   ·rintro rfl;rcases he with z|z
    ·exact nown c b hc z
    ·rw[hc] at z;cases z;exact hb rfl
end
structure Un (fs ex:List Addr) (H H':Hp) (h h':Heap):Prop where
 keep: ∀b o,h.get? b=some o->H b=none->b∉fs->b∉ex->h'.get? b=some o
 slot: ∀b o,h.get? b=some o->H b=none->b∈fs->b∉ex-> ∃sl,h'.get? b=some {o with slots:=sl}
 free: ∀b o,h.get? b=some o->H b=none->b∉ex->H' b=none
 there: ∀b o,h.get? b=some o->b∉ex-> ∃o',h'.get? b=some o'
 tups: ∀b xs,H b=some (.tup xs)->H' b=some (.tup xs)
 frzs: ∀b o u,H b=some (.frz o u)->H' b=some (.frz o u)
 tbls: ∀b ps,H b=some (.tbl ps)-> ∃more,H' b=some (.tbl (ps++more))
section
variable {fs fs' ex ex':List Addr} {H H1 H2:Hp} {h h1 h2 h':Heap} {a x e:Addr} {o:HO}
theorem Un.any(u:Un fs ex H H1 h h1){ob:Obj}(q:h.get? b=some ob)(n:H b=none)(hx:b∉ex): ∃sl,h1.get? b=some {ob with slots:=sl}:=by
 by_cases hb:b∈fs
 ·exact u.slot b ob q n hb hx
 ·exact⟨ob.slots,u.keep b ob q n hb hx⟩
theorem Un.kept(k: ∀b u,h.get? b=some u->h'.get? b=some u):Un fs ex H H h h':=
 ⟨λb ob q _ _ _=>k b ob q,λb ob q _ _ _=>⟨ob.slots,k b ob q⟩,λ_ _ _ n _=>n,λb ob q _=>⟨ob,k b ob q⟩,λ_ _ q=>q,λ_ _ _ q=>q,λ_ ps q=>⟨#[],by rw[q];simp⟩⟩
theorem Un.refl:Un fs ex H H h h:=Un.kept λ_ _ q=>q
theorem Un.laid(k: ∀b u,h.get? b=some u->h'.get? b=some u)(hp:h.objs.size<=a)(hn:H a=none):Un fs ex H (upd H a o) h h' where
 keep:=λb u q _ _ _=>k b u q
 slot:=λb u q _ _ _=>⟨u.slots,k b u q⟩
 free:=λb u q n _=>by rw[zu (JK (Jy (Qb q) hp))];exact n
 there:=λb u q _=>⟨u,k b u q⟩
 tups:=λb xs q=>by rw[zu (yZ q hn)];exact q
 frzs:=λb u xs q=>by rw[zu (yZ q hn)];exact q
 tbls:=λb ps q=>⟨#[],by rw[zu (yZ q hn),q];simp⟩
theorem Un.write(mu:Mut (H x))(he:e=x\/H e=some (.own x))(k: ∀b u,b≠e->h.get? b=some u->h'.get? b=some u)(heo: ∃u,h'.get? e=some u):Un fs ex H (upd H x o) h h':=by
 have hx: ∀b,H b=none->b≠x:=λb n z=>by subst z;rw[n] at mu;exact mu
 have hb: ∀b,H b=none->b≠e:=λb n z=>by
  subst z;rcases he with r|r
  ·exact hx b n r
  ·rw[n] at r;cases r
 have hm: ∀b u,H b=some u-> ¬Mut (some u)->b≠x:=λb u q nm z=>by subst z;rw[q] at mu;exact nm mu
 refine⟨λb u q n _ _=>k b u (hb b n) q,λb u q n _ _=>⟨u.slots,k b u (hb b n) q⟩,λb u q n _=>by rw[zu (hx b n)];exact n,λb u q _=> ?_,
  λb xs q=>by rw[zu (hm b _ q λz=>z)];exact q,λb u xs q=>by rw[zu (hm b _ q λz=>z)];exact q,λb ps q=>⟨#[],by rw[zu (hm b _ q λz=>z),q];simp⟩⟩
 by_cases hbe:b=e
 ·subst hbe;exact heo
 ·exact⟨u,k b u hbe q⟩
end
def trk(h:Heap)(H:Hp):List Addr:=(List.range h.objs.size).filter λa=>(H a).isSome
def xF(h:Heap)(H:Hp):Heap:=PySem.W.hideAll h (trk h H)
theorem zjF(h:Heap)(H:Hp):(xF h H).objs.size=h.objs.size:=PySem.W.hideAll_size _ _
theorem zkf{o:Obj}(e:h.get? b=some o)(n:H b=none):(xF h H).get? b=some o:=
 PySem.W.hideAll_get _ e λhm=>by
  have q:(H b).isSome=true:=(List.mem_filter.mp hm).2;rw[n] at q;simp at q
theorem zmv{o:Obj}(e:(xF h H).get? b=some o):h.get? b=some o/\H b=none:=by
 have e':h.get? b=some o:=PySem.W.of_hideAll (trk h H) e;refine⟨e',?_⟩;cases q:H b with
 |none=>rfl
 |some x=>
  have hm:b∈trk h H:=List.mem_filter.mpr ⟨List.mem_range.mpr (Qb e'),by simp [q]⟩;have z:(xF h H).get? b=none:=PySem.W.hideAll_none (trk h H) hm;rw[z] at e;cases e
def zmw(g h:Heap)(L:Addr):List (Addr×Obj):=(List.range h.objs.size).filterMap λa=>if a=L\/(g.get? a).isSome=true then none else (h.get? a).map λo=>(a,o)
def rest(g h:Heap)(L d:Addr):List (Addr×Obj):=(zmw g h L).filter λp=>decide (p.1≠d)
structure Mod (K:Fg) (mg:Str->Option Value) (base:Heap):Prop where
 kin:K.In base
 glob:base.Ns mainGlobals mg
 blt: ∃mb,base.Ns builtinsNs mb/\ ∀x:Str,x≠"__name__"->mb x=bootBuiltins x
 nolimit:base.NoLimit
set_option genInjectivity false in
set_option genSizeOf false in
structure Cx where
 prog:Program
 w:World
 K:Fg
 mg:Str->Option Value
 base:Heap
 A:Around
 N:List Str
 s₀:Shared
 H₀:Hp
 env:Env
 outer:List Env
 stack:List Env
 ex:List Addr
 fn:Str->Bool
 calm:Bool
 pn:List (Addr×Obj)
 xe:Value->Shared->Prop
def frs(l:List Env):List Addr:=l.filterMap (·.frame)
abbrev Cx.fs(X:Cx):List Addr:=frs X.outer
def Vis(sc:Scope)(x:Str):Prop:=sc.names.lookup x=some .local\/sc.names.lookup x=some .cell\/sc.names.lookup x=some .free
def Loc(sc:Scope)(x:Str):Prop:=sc.names.lookup x=some .local\/sc.names.lookup x=some .cell
def zqN(env:Env)(h:Heap)(m:Str->Option Value)(x:Str)(u:Value):Prop:=
 (env.kindOf x=some .local/\m x=some u)\/((env.kindOf x=some .cell\/env.kindOf x=some .free)/\ ∃c,env.cells.lookup x=some c/\h.IsCell c (some u))
structure Cx.Ok (X:Cx):Prop where
 mod:Mod X.K X.mg X.base
 kind:X.env.scope.kind= .function
 glob:X.env.globals=mainGlobals
 blt:X.env.builtins=builtinsNs
 above:X.s₀.heap.objs.size<=X.env.locals
 inj: ∀x y c,X.env.cells.lookup x=some c->X.env.cells.lookup y=some c->x=y
 has: ∀x,(X.env.kindOf x=some .cell\/X.env.kindOf x=some .free)-> ∃c,X.env.cells.lookup x=some c
 cab: ∀x c,X.fn x=true->X.env.cells.lookup x=some c->X.s₀.heap.objs.size<=c
 hd:X.calm=true->X.A.handled=none
 frames:X.A.frames=some X.stack
 stk:X.stack=X.outer\/(X.stack=X.env::X.outer/\X.env.frame=some X.env.locals)
 exf: ∀b∈X.ex,b≠X.env.locals/\ ∀x c,X.env.cells.lookup x=some c->c≠b
 bs: ∀b o,X.base.get? b=some o->X.s₀.heap.get? b=some o/\X.H₀ b=none
 bsz:X.base.objs.size<=X.s₀.heap.objs.size
 noex: ∀b o,X.base.get? b=some o->b∉X.ex
 exfs: ∀b∈X.ex,b∉X.fs
 funs:X.s₀.heap.FunFrames X.base X.outer
 frf: ∀b∈X.fs,X.H₀ b=none
structure Inv (X:Cx) (pins:List (Addr×Obj)) (σ:List (Option V)) (H:Hp) (s:Shared):Prop where
 ok:X.Ok
 os:s.os=X.s₀.os
 bare:AllBare s.gens
 base:Un X.fs X.ex X.H₀ H X.s₀.heap s.heap
 loc: ∃m,s.heap.Ns X.env.locals m/\ ∀(i:Nat) (x:Str) (v:V),X.N[i]? =some x->σ[i]? =some (some v)->Vis X.env.scope x-> ∃u,zw v u/\zqN X.env s.heap m x u
 cell: ∀x c,X.env.cells.lookup x=some c-> ∃v,s.heap.IsCell c v
 free:H X.env.locals=none
 freeC: ∀x c,X.env.cells.lookup x=some c->H c=none
 pin: ∀p∈X.pn++pins,s.heap.get? p.1=some p.2/\H p.1=none/\p.1≠X.env.locals/\p.1∉X.fs/\ ∀v,p.2.data≠ .cell v
 hok:HOk X.prog X.w H s.heap
 len:σ.length=X.N.length
section
variable {X:Cx} {pins:List (Addr×Obj)} {σ:List (Option V)} {H H':Hp} {s:Shared} {h':Heap}
theorem Cx.Ok.nofr(ok:X.Ok){o:Obj}(e:X.base.get? b=some o):b∉X.fs:=λhb=>by
 have:=(ok.funs.mem hb).1;rw[e] at this;cases this
theorem Inv.bs(I:Inv X pins σ H s): ∀b o,X.base.get? b=some o->s.heap.get? b=some o/\H b=none:=λb o e=>
 ⟨I.base.keep b o (I.ok.bs b o e).1 (I.ok.bs b o e).2 (I.ok.nofr e) (I.ok.noex b o e),I.base.free b o (I.ok.bs b o e).1 (I.ok.bs b o e).2 (I.ok.noex b o e)⟩
theorem Inv.bk(I:Inv X pins σ H s): ∀b o,X.base.get? b=some o->s.heap.get? b=some o:=λb o e=>(I.bs b o e).1
theorem Inv.mod(I:Inv X pins σ H s):Mod X.K X.mg X.base:=I.ok.mod
theorem Inv.kIn(I:Inv X pins σ H s):X.K.In s.heap:=I.ok.mod.kin.keeps I.bk
theorem Inv.nolimit(I:Inv X pins σ H s):s.heap.NoLimit:=I.ok.mod.nolimit.keeps I.bk
theorem Inv.lt(I:Inv X pins σ H s):X.env.locals<s.heap.objs.size:=let ⟨_,hn,_⟩:=I.loc;hn.lt
theorem Inv.sz(I:Inv X pins σ H s):X.s₀.heap.objs.size<=s.heap.objs.size:=JE I.ok.above (Nat.le_of_lt I.lt)
theorem Inv.nofs(I:Inv X pins σ H s)(h:s.heap.objs.size<=a):a∉X.fs:=λhb=>by
 obtain⟨_,o,ho,_⟩:=I.ok.funs.mem hb;exact absurd (Jy (Qb ho) (JE I.sz h)) (Nat.lt_irrefl _)
theorem Inv.cne(I:Inv X pins σ H s): ∀x c,X.env.cells.lookup x=some c->c≠X.env.locals:=λx c e z=>by
 obtain⟨v,o,ho,hd⟩:=I.cell x c e;obtain⟨m,⟨o',es,ep,ho',hd',_⟩,_⟩:=I.loc;rw[z,ho'] at ho;cases ho;rw[hd'] at hd;cases hd
theorem Inv.funs(I:Inv X pins σ H s):s.heap.FunFrames X.base X.outer:=by
 have all: ∀(l:List Env),(∀b∈frs l,b∈X.fs)->X.s₀.heap.FunFrames X.base l->s.heap.FunFrames X.base l:=by
  intro l;induction l with
  |nil=>intro _ _;trivial
  |cons env r ih=>
   intro hs hl;obtain⟨hk,⟨L,o,hf,hn,ho,hd⟩,hr⟩:=hl;have hL:L∈X.fs:=hs L (by unfold frs;rw[List.filterMap_cons,hf];exact Jq);obtain⟨sl,e⟩:=I.base.slot L o ho (I.ok.frf L hL) hL λz=>I.ok.exfs L z hL;exact⟨hk,⟨L,_,hf,hn,e,hd⟩,ih (λb hb=>hs b (by unfold frs;rw[List.filterMap_cons,hf];exact Jl _ hb)) hr⟩
 exact all X.outer (λ_ hb=>hb) I.ok.funs
theorem Inv.stack(I:Inv X pins σ H s):s.heap.FunFrames X.base X.stack:=by
 rcases I.ok.stk with e|⟨e,hf⟩
 ·rw[e];exact I.funs
 ·rw[e];obtain⟨m,hn,_⟩:=I.loc;refine .cons (by rw[I.ok.kind];decide) hf hn ?_ I.funs;exact Heap.get?_none_of_le (JE I.ok.bsz I.ok.above)
theorem Inv.stkSub(I:Inv X pins σ H s): ∀b∈frs X.stack,b∈X.env.locals::X.fs:=λb hb=>by
 rcases I.ok.stk with e|⟨e,hf⟩
 ·rw[e] at hb;exact Jl _ hb
 ·rw[e] at hb;unfold frs at hb;rw[List.filterMap_cons,hf] at hb;exact hb
theorem Inv.stkFree(I:Inv X pins σ H s): ∀b∈frs X.stack,H b=none:=λb hb=>by
 rcases JD.mp (I.stkSub b hb) with e|hb
 ·rw[e];exact I.free
 ·obtain⟨_,o,ho,_⟩:=I.ok.funs.mem hb;exact I.base.free b o ho (I.ok.frf b hb) λz=>I.ok.exfs b z hb
theorem Inv.step{g':Array GenState}{t':Nat}{d':Drawn}{ch:List Addr}(I:Inv X pins σ H s)
  (hch: ∀b∈ch,(b∈X.ex\/X.s₀.heap.objs.size<=b)/\b≠X.env.locals/\(∀x c,X.env.cells.lookup x=some c->c≠b)/\ ∀p∈X.pn++pins,p.1≠b)
  (keep: ∀b o,b≠X.env.locals->b∉X.fs->b∉ch->s.heap.get? b=some o->H b=none->h'.get? b=some o)
  (slot: ∀b o,b≠X.env.locals->b∈X.fs->b∉ch->s.heap.get? b=some o->H b=none-> ∃sl,h'.get? b=some {o with slots:=sl}) (free: ∀b o,b∉ch->s.heap.get? b=some o->H b=none->H' b=none)
  (there: ∀b o,b∉ch->s.heap.get? b=some o-> ∃o',h'.get? b=some o')
  (tups: ∀b xs,H b=some (.tup xs)->H' b=some (.tup xs)) (frzs: ∀b o u,H b=some (.frz o u)->H' b=some (.frz o u)) (tbls: ∀b ps,H b=some (.tbl ps)-> ∃more,H' b=some (.tbl (ps++more)))
  (ns: ∀m,s.heap.Ns X.env.locals m->h'.Ns X.env.locals m) (hok:HOk X.prog X.w H' h') (hg:AllBare g'):
  Inv X pins σ H' {s with heap:=h',gens:=g',drawn:=d',toks:=t'}:=by
 have neL: ∀b o,X.s₀.heap.get? b=some o->b≠X.env.locals:=λb o e=>JK (Jy (Qb e) I.ok.above);have neC: ∀b o,X.s₀.heap.get? b=some o->b∉X.ex->b∉ch:=λb o e hx hb=>by
  rcases (hch b hb).1 with z|z
  ·exact hx z
  ·exact absurd (Jy (Qb e) z) (Nat.lt_irrefl _)
 have cellK: ∀x c,X.env.cells.lookup x=some c-> ∀v,s.heap.IsCell c v->h'.IsCell c v:=λx c e v ⟨o,ho,hd⟩=>by
  have nch:c∉ch:=λz=>(hch c z).2.2.1 x c e rfl;by_cases hc:c∈X.fs
  ·obtain⟨sl,q⟩:=slot c o (I.cne x c e) hc nch ho (I.freeC x c e);exact⟨_,q,hd⟩
  ·exact⟨o,keep c o (I.cne x c e) hc nch ho (I.freeC x c e),hd⟩
 refine⟨I.ok,I.os,hg,⟨λb o e n hb hx=> ?_,λb o e n hb hx=> ?_,λb o e n hx=> ?_,λb o e hx=> ?_,λb xs e=>tups b xs (I.base.tups b xs e),λb o xs e=>frzs b o xs (I.base.frzs b o xs e),λb ps e=> ?_⟩,?_,λx c e=> ?_,?_,λx c e=> ?_,λp hp=> ?_,hok,I.len⟩
 ·exact keep b o (neL b o e) hb (neC b o e hx) (I.base.keep b o e n hb hx) (I.base.free b o e n hx)
 ·obtain⟨sl,e1⟩:=I.base.slot b o e n hb hx;obtain⟨sl',e2⟩:=slot b _ (neL b o e) hb (neC b o e hx) e1 (I.base.free b o e n hx);exact⟨sl',e2⟩
 ·obtain⟨o',e1⟩:=I.base.there b o e hx;exact free b o' (neC b o e hx) e1 (I.base.free b o e n hx)
 ·obtain⟨o',e1⟩:=I.base.there b o e hx;exact there b o' (neC b o e hx) e1
 ·obtain⟨m1,e1⟩:=I.base.tbls b ps e;obtain⟨m2,e2⟩:=tbls b _ e1;exact⟨m1++m2,by rw[e2,Array.append_assoc]⟩
 ·obtain⟨m,hn,hl⟩:=I.loc;refine⟨m,ns m hn,λi x v e1 e2 e3=> ?_⟩;obtain⟨u,r,l⟩:=hl i x v e1 e2 e3;refine⟨u,r,?_⟩;rcases l with l|⟨k,c,e,z⟩
  ·exact .inl l
  ·exact .inr ⟨k,c,e,cellK x c e _ z⟩
 ·obtain⟨v,z⟩:=I.cell x c e;exact⟨v,cellK x c e v z⟩
 ·obtain⟨m,⟨o,_,_,ho,_⟩,_⟩:=I.loc;exact free _ o (λz=>(hch _ z).2.1 rfl) ho I.free
 ·obtain⟨v,o,ho,hd⟩:=I.cell x c e;exact free c o (λz=>(hch c z).2.2.1 x c e rfl) ho (I.freeC x c e)
 ·obtain⟨e,n,ne,nf,d⟩:=I.pin p hp;have nch:p.1∉ch:=λz=>(hch p.1 z).2.2.2 p hp rfl;exact⟨keep p.1 p.2 ne nf nch e n,free p.1 p.2 nch e n,ne,nf,d⟩
theorem Inv.un{t':Nat}(I:Inv X pins σ H s)(u:Un X.fs [] H H' s.heap h')(hok:HOk X.prog X.w H' h'):Inv X pins σ H' {s with heap:=h',toks:=t'}:=by
 obtain⟨m,⟨o,es,ep,ho,r⟩,_⟩:=id I.loc;obtain⟨sl,hL⟩:=u.any ho I.free (by simp);exact I.step (g':=s.gens) (d':=s.drawn) (ch:= []) (λ_ z=>nomatch z) (λb o _ hb _ e n=>u.keep b o e n hb (by simp)) (λb o _ hb _ e n=>u.slot b o e n hb (by simp)) (λb o _ e n=>u.free b o e n (by simp)) (λb o _ e=>u.there b o e (by simp)) u.tups u.frzs u.tbls (λm' hm=>by
  obtain⟨o',es',ep',ho',r'⟩:=hm;rw[ho] at ho';cases ho';exact⟨_,es',ep',hL,r'⟩) hok I.bare
theorem Inv.call{g':Array GenState}{t':Nat}{d':Drawn}(I:Inv X pins σ H s)(u:Un (frs X.stack) ch H H' s.heap h')(hok:HOk X.prog X.w H' h')(hg:AllBare g')
  (hch: ∀b∈ch,(b∈X.ex\/X.s₀.heap.objs.size<=b)/\b≠X.env.locals/\(∀x c,X.env.cells.lookup x=some c->c≠b)/\ ∀p∈X.pn++pins,p.1≠b):
  Inv X pins σ H' {s with heap:=h',gens:=g',drawn:=d',toks:=t'}:=by
 obtain⟨m,⟨o,es,ep,ho,r⟩,_⟩:=id I.loc;obtain⟨sl,hL⟩:=u.any ho I.free λz=>(hch _ z).2.1 rfl;exact I.step (ch:=ch) hch (λb o hL hb hc e n=>u.keep b o e n (λz=>(JD.mp (I.stkSub b z)).elim hL hb) hc) (λb o _ _ hc e n=>u.any e n hc) (λb o hc e n=>u.free b o e n hc) (λb o hc e=>u.there b o e hc) u.tups u.frzs u.tbls (λm' hm=>by
  obtain⟨o',es',ep',ho',r'⟩:=hm;rw[ho] at ho';cases ho';exact⟨_,es',ep',hL,r'⟩) hok hg
theorem Inv.turned{t':Nat}{it:Addr}(I:Inv X pins σ H s)(k: ∀b o,b≠it->s.heap.get? b=some o->h'.get? b=some o)(hn:H it=none)(hL:it≠X.env.locals)
  (h1:it∈X.ex\/X.s₀.heap.objs.size<=it) (h2: ∀x c,X.env.cells.lookup x=some c->c≠it) (h3: ∀p∈X.pn++pins,p.1≠it):Inv X pins σ H {s with heap:=h',toks:=t'}:=by
 have nit: ∀b u,H b=some u->b≠it:=λb u e z=>by rw[z,hn] at e;cases e
 refine I.step (g':=s.gens) (d':=s.drawn) (ch:= [it]) (λb hb=> ?_) (λb o _ _ hc e _=>k b o (λz=>hc (by simp [z])) e) (λb o _ _ hc e _=>⟨o.slots,k b o (λz=>hc (by simp [z])) e⟩) (λ_ _ _ _ n=>n)
  (λb o hc e=>⟨o,k b o (λz=>hc (by simp [z])) e⟩) (λ_ _ e=>e) (λ_ _ _ e=>e) (λb ps e=>⟨#[],by rw[e];simp⟩) (λm hm=> ?_) (λb u e=> ?_) I.bare
 ·have e:b=it:=by simpa using hb
  subst e;exact⟨h1,hL,h2,h3⟩
 ·obtain⟨o,es,ep,ho,r⟩:=hm;exact⟨o,es,ep,k _ o (Ne.symm hL) ho,r⟩
 ·refine(I.hok b u e).stay (λc v hc q=>k c v ?_ q) (λ_ q=>q) λ_ _ q=>q;rcases hc with z|z
  ·rw[z];exact nit b u e
  ·exact nit c _ z
theorem Inv.tok(I:Inv X pins σ H s)(t:Nat):Inv X pins σ H {s with toks:=t}:=I.un (h':=s.heap) (t':=t) Un.refl I.hok
theorem Inv.kept{t':Nat}(I:Inv X pins σ H s)(k: ∀b u,s.heap.get? b=some u->h'.get? b=some u):Inv X pins σ H {s with heap:=h',toks:=t'}:=I.un (Un.kept k) (I.hok.kept k)
theorem Inv.laid{a:Addr}{o:HO}{t':Nat}(I:Inv X pins σ H s)(k: ∀b u,s.heap.get? b=some u->h'.get? b=some u)(hp:s.heap.objs.size<=a)(new:z6 X.prog X.w (upd H a o) h' a o):
  Inv X pins σ (upd H a o) {s with heap:=h',toks:=t'}:=I.un (Un.laid k hp (I.hok.fresh hp)) (I.hok.laid k hp new)
theorem Inv.write{x e:Addr}{o:HO}{t':Nat}(I:Inv X pins σ H s)(mu:Mut (H x))(he:e=x\/H e=some (.own x))(k: ∀b u,b≠e->s.heap.get? b=some u->h'.get? b=some u)(heo: ∃u,h'.get? e=some u)
  (new:z6 X.prog X.w (upd H x o) h' x o):Inv X pins σ (upd H x o) {s with heap:=h',toks:=t'}:=I.un (Un.write mu he k heo) (I.hok.write mu he k heo new)
theorem Inv.weak{σ':List (Option V)}(I:Inv X pins σ H s)(hl:σ'.length=σ.length)(w: ∀(i:Nat) v,σ'[i]? =some (some v)->σ[i]? =some (some v)):Inv X pins σ' H s:=
 ⟨I.ok,I.os,I.bare,I.base,let ⟨m,hn,hl'⟩:=I.loc;⟨m,hn,λi x v e1 e2 e3=>hl' i x v e1 (w i v e2) e3⟩,I.cell,I.free,I.freeC,I.pin,I.hok,hl.trans I.len⟩
theorem Inv.pins_of{pins':List (Addr×Obj)}(I:Inv X pins σ H s)(h: ∀p∈pins',s.heap.get? p.1=some p.2/\H p.1=none/\p.1≠X.env.locals/\p.1∉X.fs/\ ∀v,p.2.data≠ .cell v):Inv X pins' σ H s:=
 ⟨I.ok,I.os,I.bare,I.base,I.loc,I.cell,I.free,I.freeC,λp hp=>(Jr.mp hp).elim (λz=>I.pin p (List.mem_append_left _ z)) (h p),I.hok,I.len⟩
theorem zg7{N:List Str}(hN:N.Nodup){j:Nat}(a:N[i]? =some x)(b:N[j]? =some x):i=j:=by
 obtain⟨h1,e1⟩:=Jc.mp a;obtain⟨h2,e2⟩:=Jc.mp b;exact(List.getElem_inj hN).mp (e1.trans e2.symm)
theorem zfT{M:Model}{A:Around}{E:Value->Shared->Prop}{Q:Unit->Shared->Prop}(I:Inv X pins σ H s)(hN:X.N.Nodup)(hi:X.N[i]? =some x)(hx:Loc X.env.scope x)(r:zw v u)
  (h: ∀s',Inv X pins (σ.set i (some v)) H s'->(∃a,Heap.SameBut a s.heap s'.heap/\(a=X.env.locals\/X.env.cells.lookup x=some a))->Q () s') (hf:X.fn x=true\/X.env.scope.names.lookup x=some .local:=by first|exact .inl rfl|exact .inr rfl|assumption):wpAny M A (storeName X.env x u) Q E s:=by
 obtain⟨m,hn,hl⟩:=id I.loc;have hcls:(X.env.scope.kind== .class||(X.env.scope.kind== .module && X.env.locals !=X.env.globals))=false:=by rw[I.ok.kind];rfl
 have hiσ:i<σ.length:=by rw[I.len];exact(Jc.mp hi).1
 have cne:=I.cne;have tracked: ∀{a:Addr} {h':Heap},(∃o,s.heap.get? a=some o/\H a=none)->Heap.SameBut a s.heap h'->HOk X.prog X.w H h':=fun {a h'} ha hs b ob e=>by
  obtain⟨_,_,hfree⟩:=ha;refine(I.hok b ob e).stay (λc w' hc q=>(hs.2 c ?_).trans q) (λ_ q=>q) λ_ _ q=>q;rintro rfl;rcases hc with rfl|hc
  ·rw[hfree] at e;cases e
  ·rw[hfree] at hc;cases hc
 rcases hx with hk|hk
 ·refine wpAny_storeName_local hk hn (λh' hn' hs=> ?_) hcls;obtain⟨oL,_,_,hoL,_⟩:=id hn;refine h _ ⟨I.ok,I.os,I.bare,⟨λb o e n hb hx=> ?_,λb o e n hb hx=> ?_,I.base.free,λb o e hx=> ?_,I.base.tups,I.base.frzs,I.base.tbls⟩,⟨_,hn',λj y v' e1 e2 e3=> ?_⟩,λy c e=> ?_,I.free,I.freeC,λp hp=> ?_,tracked ⟨oL,hoL,I.free⟩ hs,by simpa using I.len⟩ ⟨_,hs, .inl rfl⟩
  ·exact(hs.2 b (JK (Jy (Qb e) I.ok.above))).trans (I.base.keep b o e n hb hx)
  ·obtain⟨sl,e1⟩:=I.base.slot b o e n hb hx;exact⟨sl,(hs.2 b (JK (Jy (Qb e) I.ok.above))).trans e1⟩
  ·obtain⟨o',e1⟩:=I.base.there b o e hx;exact⟨o',(hs.2 b (JK (Jy (Qb e) I.ok.above))).trans e1⟩
  ·by_cases hj:j=i
   ·subst hj;rw[hi] at e1;cases e1;rw[List.getElem?_set_self hiσ] at e2;cases e2;exact⟨u,r, .inl ⟨hk,by simp⟩⟩
   ·rw[List.getElem?_set_ne (Ne.symm hj)] at e2;obtain⟨u',r',q⟩:=hl j y v' e1 e2 e3;refine⟨u',r',?_⟩;rcases q with⟨k,e⟩|⟨k,c,e,z⟩
    ·refine .inl ⟨k,?_⟩
     have:y≠x:=λe=>hj (zg7 hN e1 (e ▸ hi));simp [this,e]
    ·exact .inr ⟨k,c,e,z.sameBut hs (cne y c e)⟩
  ·obtain⟨w',z⟩:=I.cell y c e;exact⟨w',z.sameBut hs (cne y c e)⟩
  ·obtain⟨e,n,ne,nf,d⟩:=I.pin p hp;exact⟨(hs.2 p.1 ne).trans e,n,ne,nf,d⟩
 ·have hfn:X.fn x=true:=by
   rcases hf with z|z
   ·exact z
   ·rw[z] at hk;cases hk
  obtain⟨c,hc⟩:=I.ok.has x (.inl hk);obtain⟨w',z⟩:=I.cell x c hc;refine wpAny_storeName_cell I.ok.kind hk hc z (λh' hc' hs=> ?_);obtain⟨oc,hoc,hocd⟩:=id z;refine h {s with heap:=h'} ⟨I.ok,I.os,I.bare,⟨λb o e n hb hx=> ?_,λb o e n hb hx=> ?_,I.base.free,λb o e hx=> ?_,I.base.tups,I.base.frzs,I.base.tbls⟩,⟨m,hn.sameBut hs (Ne.symm (cne x c hc)),λj y v' e1 e2 e3=> ?_⟩,λy c' e=> ?_,I.free,I.freeC,λp hp=> ?_,tracked ⟨oc,hoc,I.freeC x c hc⟩ hs,by simpa using I.len⟩ ⟨c,hs, .inr hc⟩
  ·exact(hs.2 b (JK (Jy (Qb e) (I.ok.cab x c hfn hc)))).trans (I.base.keep b o e n hb hx)
  ·obtain⟨sl,e1⟩:=I.base.slot b o e n hb hx;exact⟨sl,(hs.2 b (JK (Jy (Qb e) (I.ok.cab x c hfn hc)))).trans e1⟩
  ·obtain⟨o',e1⟩:=I.base.there b o e hx;exact⟨o',(hs.2 b (JK (Jy (Qb e) (I.ok.cab x c hfn hc)))).trans e1⟩
  ·by_cases hj:j=i
   ·subst hj;rw[hi] at e1;cases e1;rw[List.getElem?_set_self hiσ] at e2;cases e2;exact⟨u,r, .inr ⟨.inl hk,c,hc,hc'⟩⟩
   ·rw[List.getElem?_set_ne (Ne.symm hj)] at e2;obtain⟨u',r',q⟩:=hl j y v' e1 e2 e3;refine⟨u',r',?_⟩;rcases q with q|⟨k,c',e,z'⟩
    ·exact .inl q
    ·refine .inr ⟨k,c',e,z'.sameBut hs ?_⟩;rintro rfl;exact hj (zg7 hN e1 (I.ok.inj _ _ _ e hc ▸ hi))
  ·by_cases hcc:c'=c
   ·subst hcc;exact⟨_,hc'⟩
   ·obtain⟨w2,z2⟩:=I.cell y c' e;exact⟨w2,z2.sameBut hs hcc⟩
  ·obtain⟨e,n,ne,nf,d⟩:=I.pin p hp;refine⟨(hs.2 p.1 ?_).trans e,n,ne,nf,d⟩;intro q;rw[q,hoc] at e;have q':oc=p.2:=JV e;exact d w' (by rw[<-q'];exact hocd)
theorem jC{M:Model}{A:Around}{E:Value->Shared->Prop}{Q:Unit->Shared->Prop}(I:Inv X pins σ H s)(hN:X.N.Nodup)(hi:X.N[i]? =some x)(hx:Loc X.env.scope x)(r:zw v u)
  (h: ∀s',Inv X pins (σ.set i (some v)) H s'->Q () s') (hf:X.fn x=true\/X.env.scope.names.lookup x=some .local:=by first|exact .inl rfl|exact .inr rfl|assumption):wpAny M A (storeName X.env x u) Q E s:=
 zfT I hN hi hx r (λs' I' _=>h s' I') hf
theorem Inv.call'{s':Shared}(I:Inv X pins σ H s)(ho:s'.os=s.os)(u:Un (frs X.stack) ch H H' s.heap s'.heap)(hok:HOk X.prog X.w H' s'.heap)(hg:AllBare s'.gens)
  (hch: ∀b∈ch,(b∈X.ex\/X.s₀.heap.objs.size<=b)/\b≠X.env.locals/\(∀x c,X.env.cells.lookup x=some c->c≠b)/\ ∀p∈X.pn++pins,p.1≠b):Inv X pins σ H' s':=by
 obtain⟨h',g',d',t',o'⟩:=s';have e:o'=s.os:=ho;subst e;exact I.call (g':=g') (t':=t') (d':=d') u hok hg hch
end
abbrev XK:=Value->Option Addr->Hp->Prop
abbrev St:=List (Option V)
abbrev VK:=V->Hp->Prop
abbrev TE:=St->Hp->VK->Prop
abbrev TT:=St->Hp->(Bool->Hp->Prop)->Prop
abbrev TA:=St->Hp->(List V->Hp->Prop)->Prop
structure Ends where
 nx:St->Hp->Prop
 rt:VK
 bk:St->Hp->Prop:=λ_ _=>False
 ct:St->Hp->Prop:=λ_ _=>False
abbrev TS:=Ends->St->Hp->Prop
def EP(X:Cx)(pins:List (Addr×Obj))(σ:St)(Q:VK)(u:Value)(s':Shared):Prop:= ∃v H',Inv X pins σ H' s'/\zw v u/\Q v H'
def TP(X:Cx)(pins:List (Addr×Obj))(σ:St)(Q:Bool->Hp->Prop)(b:Bool)(s':Shared):Prop:= ∃H',Inv X pins σ H' s'/\Q b H'
def AP(X:Cx)(pins:List (Addr×Obj))(σ:St)(Q:List V->Hp->Prop)(us:List Value)(s':Shared):Prop:= ∃vs H',Inv X pins σ H' s'/\zB vs us/\Q vs H'
def SP(X:Cx)(pins:List (Addr×Obj))(D:Ends)(f:Flow)(s':Shared):Prop:=
 match f with
 | .next=> ∃σ' H',Inv X pins σ' H' s'/\D.nx σ' H'
 | .brk=> ∃σ' H',Inv X pins σ' H' s'/\D.bk σ' H'
 | .cont=> ∃σ' H',Inv X pins σ' H' s'/\D.ct σ' H'
 | .ret u=> ∃v σ' H',Inv X pins σ' H' s'/\zw v u/\D.rt v H'
def PE(X:Cx)(e:Expr)(t:TE):Prop:=
 ∀(pins:List (Addr×Obj)) (s:Shared) (σ:St) (H:Hp) (Q:VK),Inv X pins σ H s->t σ H Q->wpAny (model X.prog X.w) X.A (eval e X.env) (EP X pins σ Q) X.xe s
def PT(X:Cx)(e:Expr)(t:TT):Prop:=
 ∀(pins:List (Addr×Obj)) (s:Shared) (σ:St) (H:Hp) (Q:Bool->Hp->Prop),Inv X pins σ H s->t σ H Q->wpAny (model X.prog X.w) X.A (isTrue e X.env (eval e X.env)) (TP X pins σ Q) X.xe s
def PW(X:Cx)(e:Expr)(t:TT):Prop:=
 ∀(whole:Sem Value) (pins:List (Addr×Obj)) (s:Shared) (σ:St) (H:Hp) (Q:Bool->Hp->Prop),Inv X pins σ H s->t σ H Q->wpAny (model X.prog X.w) X.A (isTrue e X.env whole) (TP X pins σ Q) X.xe s
theorem PW.pt{X:Cx}{t:TT}(h:PW X e t):PT X e t:=h _
def PA(X:Cx)(es:List Expr)(t:TA):Prop:=
 ∀(pos:Pos) (pins:List (Addr×Obj)) (s:Shared) (σ:St) (H:Hp) (Q:List V->Hp->Prop),Inv X pins σ H s->t σ H Q->wpAny (model X.prog X.w) X.A (spliced (backTo pos (starEach es X.env))) (AP X pins σ Q) X.xe s
def PS(X:Cx)(st:Stmt)(t:TS):Prop:=
 ∀(pins:List (Addr×Obj)) (s:Shared) (σ:St) (H:Hp) (D:Ends),Inv X pins σ H s->t D σ H->wpAny (model X.prog X.w) X.A (exec st X.env) (SP X pins D) X.xe s
def PSs(X:Cx)(st:List Stmt)(t:TS):Prop:=
 ∀(pins:List (Addr×Obj)) (s:Shared) (σ:St) (H:Hp) (D:Ends),Inv X pins σ H s->t D σ H->wpAny (model X.prog X.w) X.A (execs st X.env) (SP X pins D) X.xe s
theorem thn{α:Type}{t:Sem α}{Q Q':α->Shared->Prop}(h:wpAny M A t Q E s)(hQ: ∀a s,Q a s->Q' a s):wpAny M A t Q' E s:=wpAny_mono h hQ λ_ _ x=>x
section
variable {X:Cx}
def jD(i:Nat):TE:=λσ H Q=> ∃v,σ[i]? =some (some v)/\Q v H
def tC(v:V):TE:=λ_ H Q=>Q v H
theorem zkg{pos:Pos}(hN:X.N[i]? =some x)(hv:Vis X.env.scope x)(hd:(x==("__debug__":Str))=false:=by decide)(hcd:(x==("__classdict__":Str))=false:=by decide):PE X (.Name x pos) (jD i):=by
 intro pins s σ H Q I h;obtain⟨v,e,h⟩:=h;obtain⟨m,hn,hl⟩:=I.loc;obtain⟨u,r,l⟩:=hl i x v hN e hv;have fin:EP X pins σ Q u s:=⟨v,H,I,r,h⟩
 rcases l with⟨hk,hm⟩|⟨hk,c,hc,hcell⟩
 ·exact wpAny_Name (wpAny_loadName_local I.ok.kind hk hn hm fin) hd
 ·rcases hk with hk|hk
  ·exact wpAny_Name (wpAny_loadName_cell I.ok.kind hk hc hcell fin) hd
  ·exact wpAny_Name (wpAny_loadName_free I.ok.kind hk hc hcell fin hcd) hd
theorem zc{i j pos}:PE X (.Constant (.int i) j pos) (tC (.int i)):=λ_ _ _ H _ I h=>wpAny_Constant_int ⟨.int i,H,I.tok _,⟨_,rfl⟩,h⟩
theorem vF{b j pos}:PE X (.Constant (.bool b) j pos) (tC (.bl b)):=λ_ _ _ H _ I h=>Constant_bool ⟨.bl b,H,I,rfl,h⟩
theorem zkh{j pos}:PE X (.Constant .none j pos) (tC .non):=λ_ _ _ H _ I h=>Constant_none ⟨.non,H,I,rfl,h⟩
theorem xG{x j pos}:PE X (.Constant (.str x) j pos) (tC (.str x)):=λ_ _ _ H _ I h=>Calls.Constant_str ⟨.str x,H,I.tok _,⟨_,rfl⟩,h⟩
def Gl(X:Cx)(x:Str):Prop:=X.env.kindOf x=some .globalImplicit
theorem vG{E:Value->Shared->Prop}{pos:Pos}{Q:Value->Shared->Prop}(I:Inv X pins σ H s)(hg:Gl X x)(hm:X.mg x=some u)(h:Q u s)
  (hd:(x==("__debug__":Str))=false:=by decide):wpAny (model X.prog X.w) X.A (eval (.Name x pos) X.env) Q E s:=
 Calls.Name_function_global I.ok.kind hg (Calls.loadGlobal_global (by rw[I.ok.glob];exact I.mod.glob.keeps I.bk) hm h) hd
theorem wF{E:Value->Shared->Prop}{pos:Pos}{Q:Value->Shared->Prop}(I:Inv X pins σ H s)(hg:Gl X x)(hm:X.mg x=none)(hv:bootBuiltins x=some u)(h:Q u s)
  (hn:x≠"__name__":=by decide) (hd:(x==("__debug__":Str))=false:=by decide):wpAny (model X.prog X.w) X.A (eval (.Name x pos) X.env) Q E s:=by
 obtain⟨mb,h1,h2⟩:=I.mod.blt;exact Calls.Name_function_global I.ok.kind hg (Calls.loadGlobal_builtin (by rw[I.ok.glob];exact I.mod.glob.keeps I.bk) hm (by rw[I.ok.blt];exact h1.keeps I.bk) ((h2 x hn).trans hv) h) hd
theorem qO{pos:Pos}(hg:Gl X x)(hm:X.mg x=some u)(r:zw v u)(hd:(x==("__debug__":Str))=false:=by decide):PE X (.Name x pos) (tC v):=
 λ_ _ _ H _ I h=>vG I hg hm ⟨v,H,I,r,h⟩ hd
theorem zmx{pos:Pos}(hg:Gl X x)(hm:X.mg x=none)(hv:bootBuiltins x=some u)(r:zw v u)(hn:x≠"__name__":=by decide)(hd:(x==("__debug__":Str))=false:=by decide):PE X (.Name x pos) (tC v):=
 λ_ _ _ H _ I h=>wF I hg hm hv ⟨v,H,I,r,h⟩ hn hd
variable {a b:Expr} {ta tb:TE} {pos:Pos}
def tB(t:TE):TT:=λσ H Q=>t σ H λx H1=> ∃c,x= .bl c/\Q c H1
theorem xH{t:TE}(h:PE X e t)(he: ∀whole,isTrue e X.env whole=(do let v<-whole;standAt e.pos;holding [v] (truthy v)):=by intro _;rfl):PT X e (tB t):=by
 intro pins s σ H Q I hw
 refine isTrue_plain (thn (h pins s σ H _ I hw) λv s1 ⟨x,H1,I1,r1,q1⟩=> ?_) (he _)
 obtain⟨d,rfl,q⟩:=q1
 cases r1
 exact wpAny_truthy_bool ⟨H1,I1,q⟩
variable {tA tB':TT} {rest:List Expr}
def jE(t u:TT):TT:=λσ H Q=>t σ H λc H1=>if c=true then u σ H1 Q else Q false H1
def tOr(t u:TT):TT:=λσ H Q=>t σ H λc H1=>if c=true then Q true H1 else u σ H1 Q
def um(t:TT):TT:=λσ H Q=>t σ H λc H1=>Q (!c) H1
theorem zmz(ha:PT X a tA):PW X (.BoolOp .And [a] pos) tA:=by
 intro wh pins s σ H Q I h;refine isTrue_and (thn (ha pins s σ H Q I h) λc s1 e=> ?_);cases c with
 |true=>exact isTrue_and_nil e
 |false=>exact e
theorem zki(ha:PT X a tA):PW X (.BoolOp .Or [a] pos) tA:=by
 intro wh pins s σ H Q I h;refine isTrue_or (thn (ha pins s σ H Q I h) λc s1 e=> ?_);cases c with
 |false=>exact isTrue_or_nil e
 |true=>exact e
theorem zn3(ha:PT X a tA)(hb:PW X (.BoolOp .And (b::rest) pos) tB'):PW X (.BoolOp .And (a::b::rest) pos) (jE tA tB'):=by
 intro wh pins s σ H Q I h;refine isTrue_and (thn (ha pins s σ H _ I h) λc s1 ⟨H1,I1,q1⟩=> ?_);cases c with
 |true=>exact hb wh pins s1 σ H1 Q I1 q1
 |false=>exact⟨H1,I1,q1⟩
theorem znA(ha:PT X a tA)(hb:PW X (.BoolOp .Or (b::rest) pos) tB'):PW X (.BoolOp .Or (a::b::rest) pos) (tOr tA tB'):=by
 intro wh pins s σ H Q I h;refine isTrue_or (thn (ha pins s σ H _ I h) λc s1 ⟨H1,I1,q1⟩=> ?_);cases c with
 |true=>exact⟨H1,I1,q1⟩
 |false=>exact hb wh pins s1 σ H1 Q I1 q1
theorem zkj(ha:PT X a tA):PT X (.UnaryOp .Not a pos) (um tA):=by
 intro pins s σ H Q I h;exact isTrue_not (ha pins s σ H (λc H1=>Q (!c) H1) I h)
def znB(ta tb:TE):TE:=λσ H Q=>ta σ H λx H1=> ∃c,x= .bl c/\if c=true then tb σ H1 Q else Q (.bl false) H1
def zpU(ta tb:TE):TE:=λσ H Q=>ta σ H λx H1=> ∃c,x= .bl c/\if c=true then Q (.bl true) H1 else tb σ H1 Q
def znC(ta:TE):TE:=λσ H Q=>ta σ H λx H1=> ∃c,x= .bl c/\Q (.bl (!c)) H1
theorem jF{op}{t:TE}(h:PE X a t):PE X (.BoolOp op [a] pos) t:=λpins s σ H Q I hw=>BoolOp_one (h pins s σ H Q I hw)
theorem zn4(ha:PE X a ta)(hb:PE X (.BoolOp .And (b::rest) pos) tb):PE X (.BoolOp .And (a::b::rest) pos) (znB ta tb):=by
 intro pins s σ H Q I h;refine BoolOp_and (thn (ha pins s σ H _ I h) λv s1 ⟨x,H1,I1,r1,q1⟩=> ?_);obtain⟨c,rfl,q1⟩:=q1;cases r1;refine wpAny_truthy_bool ?_;cases c with
 |true=>exact hb pins s1 σ H1 Q I1 q1
 |false=>exact⟨.bl false,H1,I1,rfl,q1⟩
theorem zpV(ha:PE X a ta)(hb:PE X (.BoolOp .Or (b::rest) pos) tb):PE X (.BoolOp .Or (a::b::rest) pos) (zpU ta tb):=by
 intro pins s σ H Q I h;refine BoolOp_or (thn (ha pins s σ H _ I h) λv s1 ⟨x,H1,I1,r1,q1⟩=> ?_);obtain⟨c,rfl,q1⟩:=q1;cases r1;refine wpAny_truthy_bool ?_;cases c with
 |false=>exact hb pins s1 σ H1 Q I1 q1
 |true=>exact⟨.bl true,H1,I1,rfl,q1⟩
theorem zn5(ha:PE X a ta):PE X (.UnaryOp .Not a pos) (znC ta):=by
 intro pins s σ H Q I h;refine UnaryOp_ (thn (ha pins s σ H _ I h) λv s1 ⟨x,H1,I1,r1,q1⟩=> ?_);obtain⟨c,rfl,q1⟩:=q1;cases r1;exact not_of (wpAny_truthy_bool ⟨.bl (!c),H1,I1,rfl,q1⟩)
def tIf(t:TT)(ta tb:TE):TE:=λσ H Q=>t σ H λc H1=>if c=true then ta σ H1 Q else tb σ H1 Q
theorem zkk(hc:PT X c tA)(ha:PE X a ta)(hb:PE X b tb):PE X (.IfExp c a b pos) (tIf tA ta tb):=by
 intro pins s σ H Q I h;refine wpAny_IfExp (thn (hc pins s σ H _ I h) λd s1 ⟨H1,I1,q1⟩=> ?_);cases d with
 |true=>exact ha pins s1 σ H1 Q I1 q1
 |false=>exact hb pins s1 σ H1 Q I1 q1
end
def SqL(K:Fg)(H:Hp)(a:Addr)(xs:List V):Prop:=
 Rd H a (.lst xs)\/
  ∃(o:Obj) (its:Array Value) (n:Nat),K.lookup a=some o/\o.cls= .type "list"/\o.dict=none/\o.data= .seq its n/\its.size<=sizeLine/\zB xs its.toList
def SqT(K:Fg)(H:Hp)(a:Addr)(xs:List V):Prop:=
 Rd H a (.tup xs)\/
  ∃(o:Obj) (its:Array Value) (n:Nat),K.lookup a=some o/\o.cls= .type "tuple"/\o.data= .seq its n/\its.size<=sizeLine/\zB xs its.toList
def zqO:Value->Option V
 | .none=>some .non
 | .bool b=>some (.bl b)
 | .int i _=>some (.int i)
 | .str x _=>some (.str x)
 | .bytes b _=>some (.byt b)
 | .float b _=>some (.flt b)
 | .ref a=>some (.ref a)
 | .type n=>some (.ty n)
 |_=>none
theorem zw.abs{x:V}(r:zw x u):zqO u=some x:=by
 cases x with
 |non=>cases r;rfl
 |bl _=>cases r;rfl
 |int _=>obtain⟨t,rfl⟩:=r;rfl
 |str _=>obtain⟨t,rfl⟩:=r;rfl
 |byt _=>obtain⟨t,rfl⟩:=r;rfl
 |flt _=>obtain⟨t,rfl⟩:=r;rfl
 |ref _=>cases r;rfl
 |ty _=>cases r;rfl
theorem zw.inj{x y:V}{u:Value}(r:zw x u)(q:zw y u):x=y:=JV (r.abs.symm.trans q.abs)
theorem zB.inj: ∀{xs ys:List V} {us:List Value},zB xs us->zB ys us->xs=ys
 |_,_,_, .nil, .nil=>rfl
 |_,_,_, .cons r t, .cons r' t'=>by rw[r.inj r',zB.inj t t']
section
variable {X:Cx} {pins:List (Addr×Obj)} {σ:St} {H:Hp} {s:Shared} {a:Addr} {xs ys:List V}
theorem SqL.of(h:H a=some (.lst xs)):SqL K H a xs:= .inl (.inl h)
theorem SqT.of(h:H a=some (.tup xs)):SqT K H a xs:= .inl (.inl h)
theorem Inv.list(I:Inv X pins σ H s)(h:SqL X.K H a xs): ∃its:List Value,zB xs its/\PlainL s.heap a its.toArray/\xs.length<=sizeLine:=by
 rcases h with h|⟨o,its,n,hk,hc,hd,hs,hz,r⟩
 ·obtain⟨z,its,n,r,e⟩:=h.ok I.hok;exact⟨its,r,⟨_,n,e,rfl,rfl,rfl⟩,z⟩
 ·refine⟨its.toList,r,⟨o,n,I.kIn a o hk,hc,hd,by simpa using hs⟩,?_⟩;have e:=r.length;simp only[Jx] at e;omega
theorem Inv.tuple(I:Inv X pins σ H s)(h:SqT X.K H a xs): ∃its:List Value,zB xs its/\IsTup s.heap a its.toArray/\xs.length<=sizeLine:=by
 rcases h with h|⟨o,its,n,hk,hc,hs,hz,r⟩
 ·obtain⟨z,its,r,p⟩:=h.ok I.hok;exact⟨its,r,p,z⟩
 ·refine⟨its.toList,r,⟨o,I.kIn a o hk,hc,n,by simpa using hs⟩,?_⟩;have e:=r.length;simp only[Jx] at e;omega
theorem Inv.list_inj(I:Inv X pins σ H s)(h:SqL X.K H a xs)(h':SqL X.K H a ys):xs=ys:=by
 obtain⟨its,r,⟨o,n,e,_,_,d⟩,_⟩:=I.list h;obtain⟨its',r',⟨o',n',e',_,_,d'⟩,_⟩:=I.list h';rw[e] at e';cases e';rw[d] at d';injection d' with d1 _
 have:its=its':=by simpa using congrArg Array.toList d1
 subst this;exact r.inj r'
theorem Inv.tuple_inj(I:Inv X pins σ H s)(h:SqT X.K H a xs)(h':SqT X.K H a ys):xs=ys:=by
 obtain⟨its,r,⟨o,e,_,n,d⟩,_⟩:=I.tuple h;obtain⟨its',r',⟨o',e',_,n',d'⟩,_⟩:=I.tuple h';rw[e] at e';cases e';rw[d] at d';injection d' with d1 _
 have:its=its':=by simpa using congrArg Array.toList d1
 subst this;exact r.inj r'
end
section
variable {X:Cx} {pins:List (Addr×Obj)} {σ:St} {H:Hp} {s:Shared} {E:Value->Shared->Prop}
end
section
variable {X:Cx} {st:Stmt} {rest:List Stmt} {t u:TS} {e:Expr} {te:TE} {pos:Pos}
def znD:TS:=λD σ H=>D.nx σ H
def zpW(t u:TS):TS:=λD σ H=>t {D with nx:=u D} σ H
theorem zR:PSs X [] znD:=λ_ _ σ H _ I h=>wpAny_execs_nil ⟨σ,H,I,h⟩
theorem zj(h1:PS X st t)(h2:PSs X rest u):PSs X (st::rest) (zpW t u):=by
 intro pins s σ H D I h;refine wpAny_execs_cons (thn (h1 pins s σ H {D with nx:=u D} I h) λf s1 q=> ?_);cases f with
 |next=>
  obtain⟨σ',H',I',q⟩:=q;exact h2 pins s1 σ' H' D I' q
 |ret v=>exact q
 |brk=>exact q
 |cont=>exact q
theorem zq(h1:PS X st t):PSs X [st] t:=by
 intro pins s σ H D I h;refine wpAny_execs_cons (thn (h1 pins s σ H D I h) λf s1 q=> ?_);cases f with
 |next=>exact wpAny_execs_nil q
 |ret v=>exact q
 |brk=>exact q
 |cont=>exact q
def zkl:TS:=λD σ H=>D.bk σ H
theorem zkm:PS X (.Break pos) zkl:=λ_ _ σ H _ I h=>wpAny_Break ⟨σ,H,I,h⟩
theorem Inv.quiet(I:Inv X pins σ H s):interactive X.env=false:=by simp [interactive,I.ok.kind]
def znE(te:TE):TS:=λD σ H=>te σ H λ_ H1=>D.nx σ H1
theorem yU(he:PE X e te)(hs:swapsWith e none pos.line X.env=pure false:=by rfl):PS X (.Expr e pos) (znE te):=by
 intro pins s σ H D I h;exact wpAny_Expr_any (thn (he pins s σ H _ I h) λv s1 ⟨x,H1,I1,r1,q1⟩=>⟨σ,H1,I1,q1⟩) I.quiet hs
def zpX(te:TE):TS:=λD σ H=>te σ H D.rt
theorem zD(he:PE X e te):PS X (.Return (some e) pos) (zpX te):=by
 intro pins s σ H D I h;exact wpAny_Return_some (thn (he pins s σ H _ I h) λv s1 ⟨x,H1,I1,r1,q1⟩=>⟨x,σ,H1,I1,r1,q1⟩)
def jG(c:TT)(t u:TS):TS:=λD σ H=>c σ H λb H1=>if b=true then t D σ H1 else u D σ H1
theorem zpY{a b:List Stmt}{tc:TT}(hc:PT X c tc)(ha:PSs X a t)(hb:PSs X b u):PS X (.If c a b pos) (jG tc t u):=by
 intro pins s σ H D I h;refine wpAny_If (thn (hc pins s σ H _ I h) λd s1 ⟨H1,I1,q1⟩=> ?_);cases d with
 |true=>exact ha pins s1 σ H1 D I1 q1
 |false=>exact hb pins s1 σ H1 D I1 q1
end
abbrev TG:=V->St->Hp->(St->Hp->Prop)->Prop
abbrev TGs:=List V->St->Hp->(St->Hp->Prop)->Prop
def PG(X:Cx)(target:Expr)(t:TG):Prop:=
 ∀(pins:List (Addr×Obj)) (s:Shared) (σ:St) (H:Hp) (v:V) (u:Value) (Q:St->Hp->Prop),Inv X pins σ H s->zw v u->t v σ H Q->
  wpAny (model X.prog X.w) X.A (assign target X.env u) (λ_ s'=> ∃σ' H',Inv X pins σ' H' s'/\Q σ' H') X.xe s
def PGs(X:Cx)(ts:List Expr)(t:TGs):Prop:=
 ∀(pins:List (Addr×Obj)) (s:Shared) (σ:St) (H:Hp) (vs:List V) (us:List Value) (Q:St->Hp->Prop),Inv X pins σ H s->zB vs us->t vs σ H Q->
  wpAny (model X.prog X.w) X.A (assignInOrder ((assignEach ts X.env).map (·.2)) us) (λ_ s'=> ∃σ' H',Inv X pins σ' H' s'/\Q σ' H') X.xe s
abbrev TIp:=V->V->Hp->VK->Prop
def PIp(X:Cx)(op:Operator)(t:TIp):Prop:=
 ∀(pins:List (Addr×Obj)) (s:Shared) (σ:St) (H:Hp) (x y:V) (v u:Value) (Q:VK),Inv X pins σ H s->zw x v->zw y u->t x y H Q->
  wpAny (model X.prog X.w) X.A (inplaceOp op v u) (EP X pins σ Q) X.xe s
section
variable {X:Cx} {pos:Pos}
def xI(i:Nat):TG:=λv σ H Q=>Q (σ.set i (some v)) H
theorem zr(hN:X.N.Nodup)(hi:X.N[i]? =some x)(hx:Loc X.env.scope x)(hf:X.fn x=true\/X.env.scope.names.lookup x=some .local:=by first|exact .inl rfl|exact .inr rfl|assumption):PG X (.Name x pos) (xI i):=by
 intro pins s σ H v u Q I r h;exact wpAny_assign_Name (jC I hN hi hx r (λs' I'=>⟨_,H,I',h⟩) hf)
def vH:TGs:=λvs σ H Q=>vs= []/\Q σ H
def wG(t:TG)(u:TGs):TGs:=λvs σ H Q=> ∃v r,vs=v::r/\t v σ H λσ' H'=>u r σ' H' Q
theorem qT:PGs X [] vH:=by
 intro pins s σ H vs us Q I r h;obtain⟨e,h⟩:=h;subst e;cases r;exact assignInOrder_nil ⟨σ,H,I,h⟩
theorem yt{es:List Expr}{t:TG}{u:TGs}(h1:PG X e t)(h2:PGs X es u)
  (hs:(assignEach (e::es) X.env).map (·.2)=assign e X.env::(assignEach es X.env).map (·.2):=by rfl):PGs X (e::es) (wG t u):=by
 intro pins s σ H vs us Q I r h;obtain⟨v,vr,e1,h⟩:=h;subst e1;cases r with
 |cons r rr=>
  rw[hs];refine assignInOrder_cons (thn (h1 pins s σ H _ _ _ I r h) λ_ s1 ⟨σ1,H1,I1,q1⟩=> ?_);exact h2 pins s1 σ1 H1 _ _ Q I1 rr q1
def jH(K:Fg)(n:Nat)(t:TGs):TG:=λv σ H Q=> ∃a xs,v= .ref a/\SqT K H a xs/\xs.length=n/\t xs σ H Q
theorem zZ{es:List Expr}{k:Nat}{t:TGs}{n:Nat}(hc:X.calm=true)(h:PGs X es t)
  (hn:(assignEach es X.env).length=n:=by rfl) (hst:(assignEach es X.env).findIdx? (·.1)=none:=by rfl):PG X (.Tuple es k pos) (jH X.K n t):=by
 intro pins s σ H v u Q I r hw;obtain⟨a,xs,e1,hq,hl,hw⟩:=hw;subst e1;cases r;obtain⟨its,rv,ht,hz⟩:=I.tuple hq;refine assign_Tuple_tuple (I.ok.hd hc) ht (by simp [hn,<-hl,rv.length]) hst λh' hx=> ?_;have I1:Inv X pins σ H {s with heap:=h'}:=I.kept (t':=s.toks) λb o e=>hx b o (JK (Qb e)) e;exact h pins _ σ H xs _ Q I1 (by simpa using rv) hw
def vI(te:TE)(g:TG):TS:=λD σ H=>te σ H λx H1=>g x σ H1 D.nx
theorem yB(he:PE X e te)(hg:PG X tg g)(hs:swapsWithSole [tg] e pos.line X.env=pure false:=by rfl)(hw:swappedStores [tg] e X.env=pure none:=by rfl)
  (h1:(assignEach [tg] X.env).map (·.2)= [assign tg X.env]:=by rfl):PS X (.Assign [tg] e pos) (vI te g):=by
 intro pins s σ H D I h;refine wpAny_Assign_stores (thn (he pins s σ H _ I h) λv s1 ⟨x,H1,I1,r1,q1⟩=> ?_) hs hw;rw[h1];exact thn (hg pins s1 σ H1 x v _ I1 r1 q1) λ_ s2 q=>q
theorem zn8{pos':Pos}(hN:X.N.Nodup)(hi:X.N[i]? =some x)(hx:Loc X.env.scope x)(he:PE X e te)(hs:swapsWith e (some (.Name x pos')) pos.line X.env=pure false:=by rfl)(hf:X.fn x=true\/X.env.scope.names.lookup x=some .local:=by first|exact .inl rfl|exact .inr rfl|assumption):
  PS X (.Assign [.Name x pos'] e pos) (vI te (xI i)):=by
 intro pins s σ H D I h;refine wpAny_Assign_Name (thn (he pins s σ H _ I h) λv s1 ⟨y,H1,I1,r1,q1⟩=> ?_) hs;exact jC I1 hN hi hx r1 (λs2 I2=>⟨_,H1,I2,q1⟩) hf
def zpZ(i:Nat)(te:TE)(ti:TIp):TS:=λD σ H=> ∃x,σ[i]? =some (some x)/\te σ H λy H1=>ti x y H1 λz H2=>D.nx (σ.set i (some z)) H2
theorem zn9{ti:TIp}{pos':Pos}(hN:X.N.Nodup)(hi:X.N[i]? =some x)(hx:Loc X.env.scope x)(he:PE X e te)(ho:PIp X op ti)(hf:X.fn x=true\/X.env.scope.names.lookup x=some .local:=by first|exact .inl rfl|exact .inr rfl|assumption):
  PS X (.AugAssign (.Name x pos') op e pos) (zpZ i te ti):=by
 intro pins s σ H D I h;obtain⟨v,e1,h⟩:=h;obtain⟨m,hn,hl⟩:=I.loc;have vis:Vis X.env.scope x:=by rcases hx with k|k;exact .inl k;exact .inr (.inl k)
 obtain⟨u,r,l⟩:=hl i x v hi e1 vis;refine wpAny_AugAssign_Name ?_;have go:wpAny (model X.prog X.w) X.A (eval e X.env) (λw s₂=>wpAny (model X.prog X.w) X.A (inplaceOp op u w) (λr s₃=>wpAny (model X.prog X.w) X.A (storeName X.env x r) (λ_=>SP X pins D .next) X.xe s₃) X.xe s₂) X.xe s:=by
  refine thn (he pins s σ H _ I h) λw s1 ⟨y,H1,I1,r1,q1⟩=> ?_;refine thn (ho pins s1 σ H1 v y u w _ I1 r r1 q1) λz s2 ⟨zv,H2,I2,r2,q2⟩=> ?_;exact jC I2 hN hi hx r2 (λs3 I3=>⟨_,H2,I3,q2⟩) hf
 rcases l with⟨hk,hm⟩|⟨hk,c,hc,hcell⟩
 ·exact wpAny_loadName_local I.ok.kind hk hn hm go
 ·rcases hk with hk|hk
  ·exact wpAny_loadName_cell I.ok.kind hk hc hcell go
  ·rcases hx with k|k
   ·have:X.env.scope.names.lookup x=some .free:=hk;rw[k] at this;cases this
   ·have:X.env.scope.names.lookup x=some .free:=hk;rw[k] at this;cases this
def ipI(f:Int->Int->Int):TIp:=λx y H Q=> ∃i j,x= .int i/\y= .int j/\Q (.int (f i j)) H
theorem zoa:PIp X .Add (ipI λi j=>i+j):=by
 intro pins s σ H x y v u Q I r1 r2 h;obtain⟨i,j,e1,e2,q⟩:=h;subst e1;subst e2;obtain⟨t,rfl⟩:=r1;obtain⟨t',rfl⟩:=r2;exact iadd_int ⟨.int _,H,I.tok _,⟨_,rfl⟩,q⟩
theorem zob:PIp X .Sub (ipI λi j=>i - j):=by
 intro pins s σ H x y v u Q I r1 r2 h;obtain⟨i,j,e1,e2,q⟩:=h;subst e1;subst e2;obtain⟨t,rfl⟩:=r1;obtain⟨t',rfl⟩:=r2;exact isub_int ⟨.int _,H,I.tok _,⟨_,rfl⟩,q⟩
end
section
variable {X:Cx} {pos:Pos}
def zkp(c:TT)(tb:TS):TS:=λD σ H=> ∃W:Nat->St->Hp->Prop,(∃m,W m σ H)/\ ∀m σ H,W m σ H->
 c σ H λb H1=>if b=true then∃N:St->Hp->Prop,(∀σ' H',N σ' H'-> ∃m',m'<m/\W m' σ' H')/\tb {D with nx:=N,ct:=N,bk:=D.nx} σ H1 else D.nx σ H1
theorem zg9{tc:TT}(hp:PassesOwn (model X.prog X.w) X.A X.env X.xe)(hc:PT X c tc)(hb:PSs X body tb):PS X (.While c body [] pos) (zkp tc tb):=by
 intro pins s σ H D I h;obtain⟨W,⟨m0,w0⟩,turn⟩:=h;refine wpAny_While (codeAny_whileLoop (λn s'=> ∃σ' H',Inv X pins σ' H' s'/\W n σ' H') ?_ m0 ⟨σ,H,I,w0⟩);rintro n s1 ⟨σ1,H1,I1,w1⟩;refine wpAny_passesOwn hp (thn (hc pins s1 σ1 H1 _ I1 (turn n σ1 H1 w1)) λb s2 ⟨H2,I2,q2⟩=> ?_);cases b with
 |true=>
  obtain⟨N,hN,q2⟩:=q2;rw[Jg rfl];refine wpAny_passesOwn hp (thn (hb pins s2 σ1 H2 _ I2 q2) λf s3 q3=> ?_);cases f with
  |next=>
   obtain⟨σ3,H3,I3,n3⟩:=q3;obtain⟨m',hm,w3⟩:=hN σ3 H3 n3;exact⟨m',hm,σ3,H3,I3,w3⟩
  |cont=>
   obtain⟨σ3,H3,I3,n3⟩:=q3;obtain⟨m',hm,w3⟩:=hN σ3 H3 n3;exact⟨m',hm,σ3,H3,I3,w3⟩
  |brk=>exact q3
  |ret v=>exact q3
 |false=>
  rw[Jf Ju];exact wpAny_execs_nil ⟨σ1,H2,I2,q2⟩
end
structure It where
 go:Nat->Hp->Prop
 yld:Nat->Hp->V->Hp->Prop
 stop:Nat->Hp->Prop
def qU(X:Cx)(pins:List (Addr×Obj))(H:Hp)(b:Addr):Prop:=
 H b=none/\b≠X.env.locals/\b∉X.fs/\(b∈X.ex\/X.s₀.heap.objs.size<=b)/\(∀x c,X.env.cells.lookup x=some c->c≠b)/\ ∀p∈X.pn++pins,p.1≠b
theorem Inv.fpOk{X:Cx}{H':Hp}(I:Inv X pins σ H s)(hb:s.heap.objs.size<=b)(hn:H' b=none):qU X pins H' b:=by
 refine⟨hn,Nat.ne_of_gt (Jy I.lt hb),I.nofs hb, .inr (JE I.sz hb),λx c e z=> ?_,λp hp z=> ?_⟩
 ·obtain⟨v,q⟩:=I.cell x c e;exact absurd (Jy q.lt (by rw[z];exact hb)) (Nat.lt_irrefl _)
 ·exact absurd (Jy (Qb (I.pin p hp).1) (by rw[z];exact hb)) (Nat.lt_irrefl _)
structure Turn (P:Program) (w:World) (K:Fg) (tg:Expr) (J:It) (fp:List Addr) (it:Addr) (tn:Nat->Heap->Prop):Prop where
 mem:it∈fp
 obj: ∀i h,tn i h-> ∀b∈fp,∃o,h.get? b=some o/\ ∀v,o.data≠ .cell v
 keep: ∀i h h',tn i h->(∀b∈fp,∀o,h.get? b=some o->h'.get? b=some o)->tn i h'
 item: ∀(X:Cx),X.prog=P->X.w=w->X.K=K->X.calm=true-> ∀(i:Nat) (pins:List (Addr×Obj)) (s:Shared) (σ:St) (H:Hp) (E:Value->Shared->Prop),Inv X pins σ H s->(∀b∈fp,qU X pins H b)->tn i s.heap->J.go i H->
  wpAny (model P w) X.A (pyNext (.ref it)) (λr s1=> ∃u,r=some u/\
   wpAny (model P w) X.A (letOwnedTupleGo tg (.ref it) u) (λ_ s2=> ∃x H',Inv X pins σ H' s2/\zw x u/\J.yld i H x H'/\tn (i+1) s2.heap/\ ∀b∈fp,H' b=none) E s1) E s
 done: ∀(X:Cx),X.prog=P->X.w=w->X.K=K->X.calm=true-> ∀(i:Nat) (pins:List (Addr×Obj)) (s:Shared) (σ:St) (H:Hp) (E:Value->Shared->Prop),Inv X pins σ H s->(∀b∈fp,qU X pins H b)->tn i s.heap->J.stop i H->
  wpAny (model P w) X.A (pyNext (.ref it)) (λr s1=>r=none/\Inv X pins σ H s1) E s
 self: ∀(A:Around) (i:Nat) (s:Shared) (Q:Value->Shared->Prop) (E:Value->Shared->Prop),tn i s.heap->Q (.ref it) s->wpAny (model P w) A (pyIter (.ref it)) Q E s
abbrev TI:=St->Hp->(It->Hp->Prop)->Prop
def PIE(X:Cx)(pins:List (Addr×Obj))(σ:St)(tg:Expr)(R:It->Hp->Prop)(itv:Value)(s2:Shared):Prop:=
 ∃(it:Addr) (fp:List Addr) (tn:Nat->Heap->Prop) (J:It) (H':Hp),itv= .ref it/\Inv X pins σ H' s2/\Turn X.prog X.w X.K tg J fp it tn/\tn 0 s2.heap/\(∀b∈fp,qU X pins H' b)/\R J H'
def PI(X:Cx)(tg iter:Expr)(wi:TI):Prop:=
 ∀(pins:List (Addr×Obj)) (s:Shared) (σ:St) (H:Hp) (R:It->Hp->Prop),Inv X pins σ H s->wi σ H R->
  wpAny (model X.prog X.w) X.A (eval iter X.env) (λv s1=>wpAny (model X.prog X.w) X.A (pyIter v) (PIE X pins σ tg R) X.xe s1) X.xe s
theorem jI{M:Model}{A:Around}{E:Value->Shared->Prop}{tg:Expr}{it:Addr}{u:Value}{o:Obj}{n:String}{vs:Array Value}{Q:Unit->Shared->Prop}(ho:s.heap.get? it=some o)(hc:o.cls= .type n)(hd:o.data= .fields vs)
  (hn: ["enumerate","zip","dict_itemiterator","dict_reverseitemiterator","odict_iterator","itertools.zip_longest","itertools.pairwise"].contains n=false) (hQ:Q () s):wpAny M A (letOwnedTupleGo tg (.ref it) u) Q E s:=by
 unfold letOwnedTupleGo;cases tg<;>first
  |exact JX hQ
  |(cases u<;>first
    |exact JX hQ
    |(refine JW (wpAny_load ho ?_)
      rw[hc,hd];show wpAny M A (if (["enumerate","zip","dict_itemiterator","dict_reverseitemiterator","odict_iterator","itertools.zip_longest","itertools.pairwise"].contains n && vs[0]? ==some (rawInt _))=true then _ else _) Q E s;rw[Jf (by intro h;rw[hn,Bool.false_and] at h;cases h)];exact JX hQ))
def Itl(K:Fg)(a:Addr):It:=
 ⟨λi H=> ∃xs x,SqL K H a xs/\xs[i]? =some x,λi H x H'=>H'=H/\ ∀xs,SqL K H a xs->xs[i]? =some x,λi H=> ∃xs,SqL K H a xs/\xs.length<=i⟩
def Itt(K:Fg)(a:Addr):It:=
 ⟨λi H=> ∃xs x,SqT K H a xs/\xs[i]? =some x,λi H x H'=>H'=H/\ ∀xs,SqT K H a xs->xs[i]? =some x,λi H=> ∃xs,SqT K H a xs/\xs.length<=i⟩
def Itr(lo:Int)(n:Nat):It:=⟨λi _=>i<n,λi H x H'=>H'=H/\x= .int (lo+i),λi _=>n<=i⟩
theorem zjG(a it:Addr):Turn P w K tg (Itl K a) [it] it (λi h=>h.IsListIter it a i) where
 mem:=by simp
 obj:=λi h st b hb=>by
  have e:b=it:=by simpa using hb
  subst e;obtain⟨o,e,c,d⟩:=st;exact⟨o,e,λv z=>by rw[d] at z;cases z⟩
 keep:=λi h h' st k=>st.at λo e=>k it (by simp) o e
 item:=by
  intro X hP hw hK hc i pins s σ H E I hf st hg;subst hP hw hK;obtain⟨xs,x,hq,hx⟩:=hg;obtain⟨its,rv,p,hz⟩:=I.list hq;obtain⟨u,hu,ru⟩:=rv.get hx;obtain⟨f0,f1,f2,f3,f4,f5⟩:=hf it (by simp);refine wpAny_pyNext_list_item st p.isList (x:=u) (by simpa using hu) λh' st' sb=> ?_;have I1:Inv X pins σ H {s with heap:=h'}:=I.turned (t':=s.toks) (λb o hb e=>(sb.2 b hb).trans e) f0 f1 f3 f4 f5;obtain⟨o,e,c,d⟩:=id st';exact⟨u,rfl,jI (s:={s with heap:=h'}) e c d 'd' ⟨x,H,I1,ru,⟨rfl,λys hy=>by rw[I.list_inj hy hq];exact hx⟩,st',λb hb=>(hf b hb).1⟩⟩
 done:=by
  intro X hP hw hK hc i pins s σ H E I hf st hg;subst hP hw hK;obtain⟨xs,hq,hx⟩:=hg;obtain⟨its,rv,p,hz⟩:=I.list hq;obtain⟨f0,f1,f2,f3,f4,f5⟩:=hf it (by simp);have hl:=rv.length;exact wpAny_pyNext_list_end (I.ok.hd hc) st p.isList (by simp;omega) λh' eb=>⟨rfl,I.turned (t':=s.toks) (λb o hb e=>eb b o hb e) f0 f1 f3 f4 f5⟩
 self:=λ_ _ _ _ _ st h=>wpAny_pyIter_listiter st h
theorem zh7(a it:Addr):Turn P w K tg (Itt K a) [it] it (λi h=>h.IsTupleIter it a i) where
 mem:=by simp
 obj:=λi h st b hb=>by
  have e:b=it:=by simpa using hb
  subst e;obtain⟨o,e,c,d⟩:=st;exact⟨o,e,λv z=>by rw[d] at z;cases z⟩
 keep:=λi h h' st k=>st.at λo e=>k it (by simp) o e
 item:=by
  intro X hP hw hK hc i pins s σ H E I hf st hg;subst hP hw hK;obtain⟨xs,x,hq,hx⟩:=hg;obtain⟨its,rv,p,hz⟩:=I.tuple hq;obtain⟨u,hu,ru⟩:=rv.get hx;obtain⟨f0,f1,f2,f3,f4,f5⟩:=hf it (by simp);refine wpAny_pyNext_tuple_item st (show s.heap.IsTuple a its.toArray from p) (x:=u) (by simpa using hu) λh' st' sb=> ?_;have I1:Inv X pins σ H {s with heap:=h'}:=I.turned (t':=s.toks) (λb o hb e=>(sb.2 b hb).trans e) f0 f1 f3 f4 f5;obtain⟨o,e,c,d⟩:=id st';exact⟨u,rfl,jI (s:={s with heap:=h'}) e c d 'd' ⟨x,H,I1,ru,⟨rfl,λys hy=>by rw[I.tuple_inj hy hq];exact hx⟩,st',λb hb=>(hf b hb).1⟩⟩
 done:=by
  intro X hP hw hK hc i pins s σ H E I hf st hg;subst hP hw hK;obtain⟨xs,hq,hx⟩:=hg;obtain⟨its,rv,p,hz⟩:=I.tuple hq;obtain⟨f0,f1,f2,f3,f4,f5⟩:=hf it (by simp);have hl:=rv.length;exact wpAny_pyNext_tuple_end (I.ok.hd hc) st (show s.heap.IsTuple a its.toArray from p) (by simp;omega) λh' eb=>⟨rfl,I.turned (t':=s.toks) (λb o hb e=>eb b o hb e) f0 f1 f3 f4 f5⟩
 self:=λ_ _ _ _ _ st h=>wpAny_pyIter_tupleiter st h
theorem zh8(it:Addr)(lo:Int)(n:Nat):Turn P w K tg (Itr lo n) [it] it (λi h=>IsRangeIter h it (lo+(i:Nat)*1) ((n:Int) - (i:Nat)) 1) where
 mem:=by simp
 obj:=λi h st b hb=>by
  have e:b=it:=by simpa using hb
  subst e;exact⟨_,st,λv z=>by
   have z':Data.fields _=Data.cell v:=z;cases z'⟩
 keep:=λi h h' st k=>k it (by simp) _ st
 item:=by
  intro X hP hw hK hc i pins s σ H E I hf st hg;subst hP hw hK;obtain⟨f0,f1,f2,f3,f4,f5⟩:=hf it (by simp);have W:=Walks.range (prog:=X.prog) (w:=X.w) (I.ok.hd hc) it lo 1 n;refine W.item i s _ _ hg st λv h' tk hv st' kk=> ?_;obtain⟨t,rfl⟩:=hv;have I1:Inv X pins σ H {s with heap:=h',toks:=tk}:=I.turned (λb o hb e=>kk b o (by simpa using hb) e) f0 f1 f3 f4 f5;refine⟨_,rfl,jI (s:={s with heap:=h',toks:=tk}) (n:="range_iterator") st' rfl rfl 'd' ⟨.int (lo+i),H,I1,⟨t,?_⟩,⟨rfl,rfl⟩,st',λb hb=>(hf b hb).1⟩⟩;rw[Int.mul_one]
 done:=by
  intro X hP hw hK hc i pins s σ H E I hf st hg;subst hP hw hK;obtain⟨f0,f1,f2,f3,f4,f5⟩:=hf it (by simp);exact wpAny_pyNext_range_end (I.ok.hd hc) st (by have:n<=i:=hg;omega) λh' eb=>⟨rfl,I.turned (t':=s.toks) (λb o hb e=>eb b o hb e) f0 f1 f3 f4 f5⟩
 self:=λ_ _ _ _ _ st h=>wpAny_pyIter_rangeiter st h
section
variable {X:Cx} {tg:Expr}
def yH(K:Fg)(tl:TE):TI:=λσ H R=>tl σ H λx H1=> ∃a,x= .ref a/\(∃xs,SqL K H1 a xs)/\R (Itl K a) H1
def qm(K:Fg)(tl:TE):TI:=λσ H R=>tl σ H λx H1=> ∃a,x= .ref a/\(∃xs,SqT K H1 a xs)/\R (Itt K a) H1
theorem qo{l:Expr}{tl:TE}(hl:PE X l tl):PI X tg l (yH X.K tl):=by
 intro pins s σ H R I h;refine thn (hl pins s σ H _ I h) λv s1 ⟨x,H1,I1,r1,q1⟩=> ?_;obtain⟨a,e,⟨xs,hq⟩,q⟩:=q1;subst e;cases r1;obtain⟨its,rv,p,hz⟩:=I1.list hq;refine wpAny_pyIter_list p.isList ?_;refine⟨s1.heap.objs.size, [s1.heap.objs.size],_,_,H1,rfl,I1.kept (t':=s1.toks) λb o e=>Qa _ e,zjG a _,⟨_,Qc _ rfl,rfl,rfl⟩,λb hb=> ?_,q⟩;have e:b=s1.heap.objs.size:=by simpa using hb
 subst e;exact I1.fpOk (Je _) (I1.hok.fresh (Je _))
theorem zoc{l:Expr}{tl:TE}(hl:PE X l tl):PI X tg l (qm X.K tl):=by
 intro pins s σ H R I h;refine thn (hl pins s σ H _ I h) λv s1 ⟨x,H1,I1,r1,q1⟩=> ?_;obtain⟨a,e,⟨xs,hq⟩,q⟩:=q1;subst e;cases r1;obtain⟨its,rv,p,hz⟩:=I1.tuple hq;refine wpAny_pyIter_tuple (show s1.heap.IsTuple a its.toArray from p) ?_;refine⟨s1.heap.objs.size, [s1.heap.objs.size],_,_,H1,rfl,I1.kept (t':=s1.toks) λb o e=>Qa _ e,zh7 a _,⟨_,Qc _ rfl,rfl,rfl⟩,λb hb=> ?_,q⟩;have e:b=s1.heap.objs.size:=by simpa using hb
 subst e;exact I1.fpOk (Je _) (I1.hok.fresh (Je _))
theorem zha{R:It->Hp->Prop}{E:Value->Shared->Prop}{lo hi:Int}{t u v:Tok}{tk:Nat}(I:Inv X pins σ H s)(h1: -(2 ^ 62)<=lo)(h2:lo<2 ^ 62)(h3: -(2 ^ 62)<=hi)(h4:hi<2 ^ 62)
  (q:R (Itr lo (hi - lo).toNat) H):wpAny (model X.prog X.w) X.A (pyIter (.ref s.heap.objs.size)) (PIE X pins σ tg R) E {s with heap:=s.heap.push {cls:= .type "range",data:= .fields #[.int lo t, .int hi u, .int 1 v]},toks:=tk}:=by
 refine wpAny_pyIter_range (IsRange.new ..) (small_one h1 h2 h3 h4) ?_;have I1:Inv X pins σ H {s with heap:=s.heap.push {cls:= .type "range",data:= .fields #[.int lo t, .int hi u, .int 1 v]},toks:=tk}:=I.kept λb o e=>Qa _ e;refine⟨(s.heap.push {cls:= .type "range",data:= .fields #[.int lo t, .int hi u, .int 1 v]}).objs.size, [(s.heap.push {cls:= .type "range",data:= .fields #[.int lo t, .int hi u, .int 1 v]}).objs.size],_,_,H,rfl,
  I1.kept (t':=tk) λb o e=>Qa _ e,zh8 _ lo (hi - lo).toNat,?_,λb hb=> ?_,q⟩
 ·have e1:lo+((0:Nat):Int)*1=lo:=by simp
  have e2:(((hi - lo).toNat:Nat):Int) - ((0:Nat):Int)=Builtin.Range.rangeSize lo hi 1:=by rw[rangeSize_one];split<;>omega
  show IsRangeIter _ _ (lo+((0:Nat):Int)*1) ((((hi - lo).toNat:Nat):Int) - ((0:Nat):Int)) 1;rw[e1,e2];exact Qc _ rfl
 ·have e:b=(s.heap.push {cls:= .type "range",data:= .fields #[.int lo t, .int hi u, .int 1 v]}).objs.size:=by simpa using hb
  subst e;exact I1.fpOk (Je _) (I1.hok.fresh (Je _))
def qb(ta:TA):TI:=λσ H R=>ta σ H λvs H1=> ∃j:Int,vs= [.int j]/\ -(2 ^ 62)<=j/\j<2 ^ 62/\R (Itr 0 j.toNat) H1
def qx(ta:TA):TI:=λσ H R=>ta σ H λvs H1=> ∃i j:Int,vs= [.int i, .int j]/\(-(2 ^ 62)<=i/\i<2 ^ 62/\ -(2 ^ 62)<=j/\j<2 ^ 62)/\R (Itr i (j - i).toNat) H1
theorem xJ{a:Expr}{ta:TA}{p pos:Pos}(hg:Gl X "range")(hm:X.mg "range"=none)(ha:PA X [a] ta)(hs:starEach [a] X.env= [(false,eval a X.env)]:=by rfl):PI X tg (.Call (.Name "range" p) [a] [] pos) (qb ta):=by
 intro pins s σ H R I h;refine Call_ (wF I hg hm boot_range (PyProof.Rows.callWith_type1 (thn (ha pos pins s σ H _ I h) λus s1 ⟨vs,H1,I1,r1,q1⟩=> ?_) hs rfl));obtain⟨j,e,q1,q2,q⟩:=q1;subst e;cases r1 with
 |cons r rr=>
  cases rr;obtain⟨t,rfl⟩:=r;exact call_range_1 (zha I1 'o' 'o' q1 q2 (by simpa using q))
theorem zjH{a b:Expr}{ta:TA}{p pos:Pos}(hg:Gl X "range")(hm:X.mg "range"=none)(ha:PA X [a,b] ta)(hs:starEach [a,b] X.env= [(false,eval a X.env),(false,eval b X.env)]:=by rfl)(hs2:starEach [b] X.env= [(false,eval b X.env)]:=by rfl):
  PI X tg (.Call (.Name "range" p) [a,b] [] pos) (qx ta):=by
 intro pins s σ H R I h;refine Call_ (wF I hg hm boot_range (PyProof.Rows.callWith_type1 (thn (ha pos pins s σ H _ I h) λus s1 ⟨vs,H1,I1,r1,q1⟩=> ?_) (by rw[hs,hs2]) (by rw[hs2];rfl)));obtain⟨i,j,e,⟨q1,q2,q3,q4⟩,q⟩:=q1;subst e;cases r1 with
 |cons r rr=>
  cases rr with
  |cons r' rr=>
   cases rr;obtain⟨t,rfl⟩:=r;obtain⟨t',rfl⟩:=r';exact call_range_2 (zha I1 q1 q2 q3 q4 q)
def zp0(wi:TI)(g:TG)(tb:TS):TS:=λD σ H=>wi σ H λJ H1=> ∃W:Nat->Nat->St->Hp->Prop,(∃m,W 0 m σ H1)/\ ∀i m σ H,W i m σ H->
 (J.stop i H/\D.nx σ H)\/(J.go i H/\ ∃N:St->Hp->Prop,(∀σ' H',N σ' H'-> ∃m',m'<m/\W (i+1) m' σ' H')/\ ∀x H',J.yld i H x H'->g x σ H' λσ2 H2=>tb {D with nx:=N,ct:=N,bk:=D.nx} σ2 H2)
def vJ(fp:List Addr)(h:Heap):List (Addr×Obj):=fp.filterMap λb=>(h.get? b).map λo=>(b,o)
theorem uq{o:Obj}(hb:b∈fp)(e:h.get? b=some o):(b,o)∈vJ fp h:=List.mem_filterMap.mpr ⟨b,hb,by rw[e];rfl⟩
theorem zjI{p:Addr×Obj}(hp:p∈vJ fp h):p.1∈fp/\h.get? p.1=some p.2:=by
 obtain⟨b,hb,e⟩:=List.mem_filterMap.mp hp;cases q:h.get? b with
 |none=>rw[q] at e;cases e
 |some o=>
  rw[q] at e;have e':(b,o)=p:=JV e;subst e';exact⟨hb,q⟩
theorem Inv.pinned(I:Inv X pins σ H s)(hf: ∀b∈fp,qU X pins H b)(ho: ∀b∈fp,∃o,s.heap.get? b=some o/\ ∀v,o.data≠ .cell v):Inv X (pins++vJ fp s.heap) σ H s:=
 I.pins_of λp hp=>(Jr.mp hp).elim (λz=>I.pin p (List.mem_append_right _ z)) λz=>by
  obtain⟨hb,e⟩:=zjI z;obtain⟨f0,f1,f2,_⟩:=hf p.1 hb;obtain⟨o,e',d⟩:=ho p.1 hb;rw[e] at e';cases e';exact⟨e,f0,f1,f2,d⟩
theorem Inv.unpinned{pl:List (Addr×Obj)}(I:Inv X (pins++pl) σ H s):Inv X pins σ H s:=I.pins_of λp hp=>I.pin p (List.mem_append_right _ (List.mem_append_left _ hp))
theorem qp{iter:Expr}{wi:TI}{pos:Pos}(hp:PassesOwn (model X.prog X.w) X.A X.env X.xe)(hc:X.calm=true)(hi:PI X tg iter wi)(hg:PG X tg g)(hb:PSs X body tb)
  (hs: ∀x,foldedSetIterable iter X.env x=pure x:=by intro _;rfl):PS X (.For tg iter body [] pos) (zp0 wi g tb):=by
 intro pins s σ H D I h;refine wpAny_For (thn (hi pins s σ H _ I h) λv s1 h1=>thn h1 λitv s2 h2=> ?_) hs;obtain⟨it,fp,tn,J,H2,e,I2,T,st2,f2,W,⟨m0,w0⟩,turn⟩:=h2;subst e;have stat: ∀{H':Hp},(∀b∈fp,H' b=none)-> ∀b∈fp,qU X pins H' b:=λhn b hb=>⟨hn b hb,(f2 b hb).2⟩
 refine codeAny_forLoop_any (λn s'=> ∃i σ' H',Inv X pins σ' H' s'/\tn i s'.heap/\(∀b∈fp,H' b=none)/\W i n σ' H') ?_ m0 ⟨0,σ,H2,I2,st2,λb hb=>(f2 b hb).1,w0⟩;rintro n s3 ⟨i,σ3,H3,I3,st3,fr3,w3⟩;rcases turn i n σ3 H3 w3 with⟨stop,qn⟩|⟨go,N,hN,step⟩
 ·refine wpAny_passesOwn hp (thn (T.done X rfl rfl rfl hc i pins s3 σ3 H3 X.xe I3 (stat fr3) st3 stop) λr s4 ⟨hr,I4⟩=> ?_);subst hr;exact wpAny_execs_nil ⟨σ3,H3,I4,qn⟩
 ·refine wpAny_passesOwn hp (thn (T.item X rfl rfl rfl hc i pins s3 σ3 H3 X.xe I3 (stat fr3) st3 go) λr s4 ⟨u,hr,h4⟩=> ?_);subst hr;refine wpAny_passesOwn hp (thn h4 λ_ s5 ⟨x,H5,I5,r5,y5,st5,fr5⟩=> ?_);have I5':=I5.pinned (stat fr5) (T.obj _ _ st5);refine wpAny_passesOwn hp (thn (hg _ s5 σ3 H5 x u _ I5' r5 (step x H5 y5)) λ_ s6 ⟨σ6,H6,I6,q6⟩=> ?_);refine wpAny_passesOwn hp (thn (hb _ s6 σ6 H6 _ I6 q6) λf s7 q7=> ?_);have again: ∀{σ7:St} {H7:Hp},Inv X (pins++vJ fp s5.heap) σ7 H7 s7->N σ7 H7-> ∃m,m<n/\ ∃i σ' H',Inv X pins σ' H' s7/\tn i s7.heap/\(∀b∈fp,H' b=none)/\W i m σ' H':=fun {σ7 H7} I7 n7=>by
   obtain⟨m',hm,w7⟩:=hN σ7 H7 n7;refine⟨m',hm,i+1,σ7,H7,I7.unpinned,T.keep _ _ _ st5 λb hb o e=>(I7.pin (b,o) (List.mem_append_right _ (List.mem_append_right _ (uq hb e)))).1,λb hb=> ?_,w7⟩;obtain⟨o,e,d⟩:=T.obj _ _ st5 b hb;exact(I7.pin (b,o) (List.mem_append_right _ (List.mem_append_right _ (uq hb e)))).2.1
  cases f with
  |next=>obtain⟨σ7,H7,I7,n7⟩:=q7;exact again I7 n7
  |cont=>obtain⟨σ7,H7,I7,n7⟩:=q7;exact again I7 n7
  |brk=>obtain⟨σ7,H7,I7,q7⟩:=q7;exact⟨σ7,H7,I7.unpinned,q7⟩
  |ret v=>obtain⟨x7,σ7,H7,I7,r7,q7⟩:=q7;exact⟨x7,σ7,H7,I7.unpinned,r7,q7⟩
end
theorem ve{xs:List V}{g:TG}{tb:TS}{D:Ends}(Pv:Nat->St->Hp->Prop)(h0:Pv 0 σ H)(hl: ∀i σ H,i<=xs.length->Pv i σ H->SqL K H a xs)
  (hs: ∀i x σ H,xs[i]? =some x->Pv i σ H->g x σ H λσ2 H2=>tb {D with nx:=Pv (i+1),ct:=Pv (i+1),bk:=D.nx} σ2 H2) (hd: ∀σ H,Pv xs.length σ H->D.nx σ H):
  ∃W:Nat->Nat->St->Hp->Prop,(∃m,W 0 m σ H)/\ ∀i m σ H,W i m σ H->
   ((Itl K a).stop i H/\D.nx σ H)\/((Itl K a).go i H/\ ∃N:St->Hp->Prop,(∀σ' H',N σ' H'-> ∃m',m'<m/\W (i+1) m' σ' H')/\ ∀x H',(Itl K a).yld i H x H'->g x σ H' λσ2 H2=>tb {D with nx:=N,ct:=N,bk:=D.nx} σ2 H2):=by
 refine⟨λi m σ H=>m=xs.length - i/\i<=xs.length/\Pv i σ H,⟨xs.length,by simp,Jv _,h0⟩,?_⟩;rintro i m σ H ⟨rfl,hi,p⟩;have q:=hl i σ H hi p;by_cases hlt:i<xs.length
 ·refine .inr ⟨⟨xs,xs[i],q,by simp [hlt]⟩,Pv (i+1),λσ' H' p'=>⟨xs.length - (i+1),'o',rfl,hlt,p'⟩,λx H' y=> ?_⟩;obtain⟨e,y⟩:=y;subst e;exact hs i x σ _ (y xs q) p
 ·have e:i=xs.length:=by omega
  subst e;exact .inl ⟨⟨xs,q,Je _⟩,hd σ H p⟩
theorem vf{lo:Int}{n:Nat}{g:TG}{tb:TS}{D:Ends}(Pv:Nat->St->Hp->Prop)(h0:Pv 0 σ H)
  (hs: ∀i σ H,i<n->Pv i σ H->g (.int (lo+i)) σ H λσ2 H2=>tb {D with nx:=Pv (i+1),ct:=Pv (i+1),bk:=D.nx} σ2 H2) (hd: ∀σ H,Pv n σ H->D.nx σ H):
  ∃W:Nat->Nat->St->Hp->Prop,(∃m,W 0 m σ H)/\ ∀i m σ H,W i m σ H->
   ((Itr lo n).stop i H/\D.nx σ H)\/((Itr lo n).go i H/\ ∃N:St->Hp->Prop,(∀σ' H',N σ' H'-> ∃m',m'<m/\W (i+1) m' σ' H')/\ ∀x H',(Itr lo n).yld i H x H'->g x σ H' λσ2 H2=>tb {D with nx:=N,ct:=N,bk:=D.nx} σ2 H2):=by
 refine⟨λi m σ H=>m=n - i/\i<=n/\Pv i σ H,⟨n,by simp,Jv _,h0⟩,?_⟩;rintro i m σ H ⟨rfl,hi,p⟩;by_cases hlt:i<n
 ·refine .inr ⟨hlt,Pv (i+1),λσ' H' p'=>⟨n - (i+1),'o',rfl,hlt,p'⟩,λx H' y=> ?_⟩;obtain⟨e,y⟩:=y;subst e y;exact hs i σ _ hlt p
 ·have e:i=n:=by omega
  subst e;exact .inl ⟨Je _,hd σ H p⟩
theorem zkr{c:TT}{tb:TS}{D:Ends}(Pv:St->Hp->Prop)(μ:St->Hp->Nat)(h0:Pv σ H)
  (hs: ∀σ H,Pv σ H->c σ H λb H1=>if b=true then tb {D with nx:=λσ' H'=>Pv σ' H'/\μ σ' H'<μ σ H,ct:=λσ' H'=>Pv σ' H'/\μ σ' H'<μ σ H,bk:=D.nx} σ H1 else D.nx σ H1)
  (mono: ∀σ H Q Q',(∀b H1,Q b H1->Q' b H1)->c σ H Q->c σ H Q'):zkp c tb D σ H:=by
 refine⟨λm σ H=>m=μ σ H/\Pv σ H,⟨_,rfl,h0⟩,?_⟩;rintro m σ H ⟨rfl,p⟩;refine mono σ H _ _ (λb H1 q=> ?_) (hs σ H p);cases b with
 |true=>exact⟨_,λσ' H' ⟨p',l⟩=>⟨_,l,rfl,p'⟩,q⟩
 |false=>exact q
abbrev R2:=V->V->Hp->VK->Prop
def OpR(X:Cx)(f:Value->Value->Sem Value)(r:R2):Prop:=
 ∀(pins:List (Addr×Obj)) (s:Shared) (σ:St) (H:Hp) (x y:V) (v u:Value) (Q:VK),Inv X pins σ H s->zw x v->zw y u->r x y H Q->
  wpAny (model X.prog X.w) X.A (f v u) (EP X pins σ Q) X.xe s
def UnR(X:Cx)(f:Value->Sem Value)(r:V->Hp->VK->Prop):Prop:=
 ∀(pins:List (Addr×Obj)) (s:Shared) (σ:St) (H:Hp) (x:V) (v:Value) (Q:VK),Inv X pins σ H s->zw x v->r x H Q->
  wpAny (model X.prog X.w) X.A (f v) (EP X pins σ Q) X.xe s
def yV(X:Cx)(f:Value)(r:List V->Hp->VK->Prop):Prop:=
 ∀(pins:List (Addr×Obj)) (s:Shared) (σ:St) (H:Hp) (xs:List V) (us:List Value) (Q:VK),Inv X pins σ H s->zB xs us->r xs H Q->
  wpAny (model X.prog X.w) X.A (call f us) (EP X pins σ Q) X.xe s
def tOp(r:R2)(ta tb:TE):TE:=λσ H Q=>ta σ H λx H1=>tb σ H1 λy H2=>r x y H2 Q
def tUn(r:V->Hp->VK->Prop)(ta:TE):TE:=λσ H Q=>ta σ H λx H1=>r x H1 Q
def rI(C:Int->Int->Prop)(g:Int->Int->V):R2:=λx y H Q=> ∃i j,x= .int i/\y= .int j/\C i j/\Q (g i j) H
def rI0(g:Int->Int->V):R2:=λx y H Q=> ∃i j,x= .int i/\y= .int j/\Q (g i j) H
def rU(g:Int->V):V->Hp->VK->Prop:=λx H Q=> ∃i,x= .int i/\Q (g i) H
section
variable {X:Cx} {a b c:Expr} {ta tb tc:TE} {pos:Pos}
theorem jJ(ha:PE X a ta)(hb:PE X b tb){R:V->V->Hp->Prop}(I:Inv X pins σ H s)
  (h:ta σ H λx H1=>tb σ H1 λy H2=>R x y H2) {Q:Value->Shared->Prop} {f:Value->Value->Sem Value}
  (hf: ∀v u s2 x y H2,Inv X pins σ H2 s2->zw x v->zw y u->R x y H2->wpAny (model X.prog X.w) X.A (f v u) Q X.xe s2):
  wpAny (model X.prog X.w) X.A (eval a X.env) (λv s₁=>wpAny (model X.prog X.w) X.A (eval b X.env) (λu s₂=>wpAny (model X.prog X.w) X.A (f v u) Q X.xe s₂) X.xe s₁) X.xe s:=by
 refine thn (ha pins s σ H _ I h) λv s1 ⟨x,H1,I1,r1,q1⟩=> ?_;refine thn (hb pins s1 σ H1 _ I1 q1) λu s2 ⟨y,H2,I2,r2,q2⟩=> ?_;exact hf v u s2 x y H2 I2 r1 r2 q2
theorem zh(ho:OpR X (binaryOp op) r)(ha:PE X a ta)(hb:PE X b tb):PE X (.BinOp a op b pos) (tOp r ta tb):=by
 intro pins s σ H Q I h;exact wpAny_BinOp (jJ ha hb I h λv u s2 x y H2 I2 rx ry q=>ho pins s2 σ H2 x y v u Q I2 rx ry q)
theorem vg{op:UnaryOp}{r:V->Hp->VK->Prop}(ho:UnR X (unaryOp op) r)(ha:PE X a ta):PE X (.UnaryOp op a pos) (tUn r ta):=by
 intro pins s σ H Q I h;exact UnaryOp_ (thn (ha pins s σ H _ I h) λv s1 ⟨x,H1,I1,r1,q1⟩=>ho pins s1 σ H1 x v Q I1 r1 q1)
theorem opI{f:Value->Value->Sem Value}{C:Int->Int->Prop}{g:Int->Int->Int}
  (rule: ∀(i j:Int) (t u:Tok) (s:Shared) (Q:Value->Shared->Prop) (E:Value->Shared->Prop),C i j->Q (.int (g i j) s.toks) {s with toks:=s.toks+1}->wpAny (model X.prog X.w) X.A (f (.int i t) (.int j u)) Q E s):
  OpR X f (rI C λi j=> .int (g i j)):=by
 intro pins s σ H x y v u Q I rx ry h;obtain⟨i,j,rfl,rfl,hc,q⟩:=h;obtain⟨t,rfl⟩:=rx;obtain⟨t',rfl⟩:=ry;exact rule i j t t' s _ _ hc ⟨.int (g i j),H,I.tok _,⟨_,rfl⟩,q⟩
theorem zp1{f:Value->Value->Sem Value}{g:Int->Int->Int}
  (rule: ∀(i j:Int) (t u:Tok) (s:Shared) (Q:Value->Shared->Prop) (E:Value->Shared->Prop),Q (.int (g i j) s.toks) {s with toks:=s.toks+1}->wpAny (model X.prog X.w) X.A (f (.int i t) (.int j u)) Q E s):
  OpR X f (rI0 λi j=> .int (g i j)):=by
 intro pins s σ H x y v u Q I rx ry h;obtain⟨i,j,rfl,rfl,q⟩:=h;obtain⟨t,rfl⟩:=rx;obtain⟨t',rfl⟩:=ry;exact rule i j t t' s _ _ ⟨.int (g i j),H,I.tok _,⟨_,rfl⟩,q⟩
theorem ur{f:Value->Value->Sem Value}{g:Int->Int->Bool}
  (rule: ∀(i j:Int) (t u:Tok) (s:Shared) (Q:Value->Shared->Prop) (E:Value->Shared->Prop),Q (.bool (g i j)) s->wpAny (model X.prog X.w) X.A (f (.int i t) (.int j u)) Q E s):
  OpR X f (rI0 λi j=> .bl (g i j)):=by
 intro pins s σ H x y v u Q I rx ry h;obtain⟨i,j,rfl,rfl,q⟩:=h;obtain⟨t,rfl⟩:=rx;obtain⟨t',rfl⟩:=ry;exact rule i j t t' s _ _ ⟨.bl (g i j),H,I,rfl,q⟩
def ut(i j:Int):Prop:=0<j/\j<1073741824
def wH(i j:Int):Prop:=0<=j/\j<=1000000/\i.natAbs<2 ^ 64
def vh(i j:Int):Prop:=(-(2 ^ 64)<i/\i<2 ^ 64)\/(-(2 ^ 64)<j/\j<2 ^ 64)
theorem vh.ok{i j:Int}(h:vh i j):IntMulOk i j:=by
 rcases h with⟨h1,h2⟩|⟨h1,h2⟩
 ·exact .of_left (intBits_le_64 h1 h2)
 ·exact .of_right (intBits_le_64 h1 h2)
theorem zoe:OpR X (binaryOp .Add) (rI0 λi j=> .int (i+j)):=zp1 λ_ _ _ _ _ _ _ q=>add_int q
theorem zof:OpR X (binaryOp .Sub) (rI0 λi j=> .int (i - j)):=zp1 λ_ _ _ _ _ _ _ q=>sub_int q
theorem zog:OpR X (binaryOp .Mult) (rI vh λi j=> .int (i*j)):=opI λ_ _ _ _ _ _ _ hc q=>mul_int q hc.ok
theorem zmC:OpR X (binaryOp .FloorDiv) (rI ut λi j=> .int (i / j)):=opI λi j _ _ _ _ _ hc q=>by
 have h1:(0:Int)<j:=hc.1;have h2:j<1073741824:=hc.2;exact floordiv_int 'o' (by rw[Int.fdiv_eq_ediv_of_nonneg i 'o'];exact q) (.inl (PyProof.noPylong_small 'o'))
theorem zoh:OpR X (binaryOp .Mod) (rI (λ_ j=>0<j) λi j=> .int (i % j)):=opI λi j _ _ _ _ _ hc q=>by
 have h1:(0:Int)<j:=hc;exact mod_int' 'o' (by rw[Int.fmod_eq_emod_of_nonneg i 'o'];exact q)
theorem zoi:OpR X (binaryOp .Pow) (rI wH λi j=> .int (i ^ j.toNat)):=opI λ_ _ _ _ _ _ _ hc q=>pow_int_small hc.1 hc.2.1 hc.2.2 q
theorem unI{f:Value->Sem Value}{g:Int->Int}
  (rule: ∀(i:Int) (t:Tok) (s:Shared) (Q:Value->Shared->Prop) (E:Value->Shared->Prop),Q (.int (g i) s.toks) {s with toks:=s.toks+1}->wpAny (model X.prog X.w) X.A (f (.int i t)) Q E s):
  UnR X f (rU λi=> .int (g i)):=by
 intro pins s σ H x v Q I rx h;obtain⟨i,rfl,q⟩:=h;obtain⟨t,rfl⟩:=rx;exact rule i t s _ _ ⟨.int (g i),H,I.tok _,⟨_,rfl⟩,q⟩
theorem zoj:UnR X (unaryOp .USub) (rU λi=> .int (-i)):=unI λ_ _ _ _ _ q=>neg_int q
end
def qZ:V->V->Bool
 | .non, .non=>true| .non, .int _=>true| .int _, .non=>true| .non, .bl _=>true| .bl _, .non=>true| .non, .str _=>true| .str _, .non=>true
 | .int _, .int _=>true| .bl _, .bl _=>true| .str _, .str _=>true| .byt _, .byt _=>true
 | .int _, .str _=>true| .str _, .int _=>true| .bl _, .str _=>true| .str _, .bl _=>true
 |_,_=>false
def rEq:R2:=λx y H Q=>qZ x y=true/\Q (.bl (decide (x=y))) H
def rNe:R2:=λx y H Q=>qZ x y=true/\Q (.bl (!decide (x=y))) H
theorem ziU{i j:Int}:decide (V.int i=V.int j)=(i==j):=by
 rw[Bool.eq_iff_iff];simp
theorem zks{i j:Bool}:decide (V.bl i=V.bl j)=(i==j):=by
 rw[Bool.eq_iff_iff];simp
theorem ziV{i j:Str}:decide (V.str i=V.str j)=(i==j):=by
 rw[Bool.eq_iff_iff];simp
theorem ziW{i j:Array UInt8}:decide (V.byt i=V.byt j)=(i.toList==j.toList):=by
 rw[Bool.eq_iff_iff];cases i;cases j;simp
section
variable {X:Cx} {a b c:Expr} {ta tb tc:TE} {pos:Pos}
theorem yh{Q:VK}{k k':Bool}(I:Inv X pins σ H s)(q:Q (.bl k) H)(e:k=k'):EP X pins σ Q (.bool k') s:=by
 subst e;exact⟨.bl k,H,I,rfl,q⟩
theorem xr:OpR X (compareOp .Eq) rEq:=by
 intro pins s σ H x y v u Q I rx ry h;obtain⟨hs,q⟩:=h;cases x with
 |non=>
  cases rx;cases y with
  |non=>cases ry;exact PySem.EqNone.eq_none_none (yh I q (by simp))
  |bl j=>cases ry;exact PySem.EqNone.eq_none_bool (yh I q (by simp))
  |int j=>obtain⟨t',rfl⟩:=ry;exact PySem.EqNone.eq_none_int (yh I q (by simp))
  |str j=>obtain⟨t',rfl⟩:=ry;exact PySem.EqNone.eq_none_str (yh I q (by simp))
  |_=>exact absurd (show false=true from hs) Ju
 |bl i=>
  cases rx;cases y with
  |non=>cases ry;exact PySem.EqNone.eq_bool_none (yh I q (by simp))
  |bl j=>cases ry;exact eq_bool (yh I q zks)
  |str j=>obtain⟨t',rfl⟩:=ry;exact PySem.EqMixed.eq_bool_str (yh I q (by simp))
  |_=>exact absurd (show false=true from hs) Ju
 |int i=>
  obtain⟨t,rfl⟩:=rx;cases y with
  |non=>cases ry;exact PySem.EqNone.eq_int_none (yh I q (by simp))
  |int j=>obtain⟨t',rfl⟩:=ry;exact eq_int (yh I q ziU)
  |str j=>obtain⟨t',rfl⟩:=ry;exact PySem.EqMixed.eq_int_str (yh I q (by simp))
  |_=>exact absurd (show false=true from hs) Ju
 |str i=>
  obtain⟨t,rfl⟩:=rx;cases y with
  |non=>cases ry;exact PySem.EqNone.eq_str_none (yh I q (by simp))
  |bl j=>cases ry;exact PySem.EqMixed.eq_str_bool (yh I q (by simp))
  |int j=>obtain⟨t',rfl⟩:=ry;exact PySem.EqMixed.eq_str_int (yh I q (by simp))
  |str j=>obtain⟨t',rfl⟩:=ry;exact eq_str (yh I q ziV)
  |_=>exact absurd (show false=true from hs) Ju
 |byt i=>
  obtain⟨t,rfl⟩:=rx;cases y with
  |byt j=>obtain⟨t',rfl⟩:=ry;exact PySem.W.eq_bytes (yh I q ziW)
  |_=>exact absurd (show false=true from hs) Ju
 |_=>cases y<;>exact absurd (show false=true from hs) Ju
theorem znF:OpR X (compareOp .NotEq) rNe:=by
 intro pins s σ H x y v u Q I rx ry h;obtain⟨hs,q⟩:=h;cases x with
 |non=>
  cases rx;cases y with
  |non=>cases ry;exact PySem.EqNone.ne_none_none (yh I q (by simp))
  |bl j=>cases ry;exact PySem.EqNone.ne_none_bool (yh I q (by simp))
  |int j=>obtain⟨t',rfl⟩:=ry;exact PySem.EqNone.ne_none_int (yh I q (by simp))
  |str j=>obtain⟨t',rfl⟩:=ry;exact PySem.EqNone.ne_none_str (yh I q (by simp))
  |_=>exact absurd (show false=true from hs) Ju
 |bl i=>
  cases rx;cases y with
  |non=>cases ry;exact PySem.EqNone.ne_bool_none (yh I q (by simp))
  |bl j=>cases ry;exact ne_bool (yh I q (congrArg not zks))
  |str j=>obtain⟨t',rfl⟩:=ry;exact PySem.EqMixed.ne_bool_str (yh I q (by simp))
  |_=>exact absurd (show false=true from hs) Ju
 |int i=>
  obtain⟨t,rfl⟩:=rx;cases y with
  |non=>cases ry;exact PySem.EqNone.ne_int_none (yh I q (by simp))
  |int j=>obtain⟨t',rfl⟩:=ry;exact ne_int (yh I q (congrArg not ziU))
  |str j=>obtain⟨t',rfl⟩:=ry;exact PySem.EqMixed.ne_int_str (yh I q (by simp))
  |_=>exact absurd (show false=true from hs) Ju
 |str i=>
  obtain⟨t,rfl⟩:=rx;cases y with
  |non=>cases ry;exact PySem.EqNone.ne_str_none (yh I q (by simp))
  |bl j=>cases ry;exact PySem.EqMixed.ne_str_bool (yh I q (by simp))
  |int j=>obtain⟨t',rfl⟩:=ry;exact PySem.EqMixed.ne_str_int (yh I q (by simp))
  |str j=>obtain⟨t',rfl⟩:=ry;exact ne_str (yh I q (congrArg not ziV))
  |_=>exact absurd (show false=true from hs) Ju
 |byt i=>
  obtain⟨t,rfl⟩:=rx;cases y with
  |byt j=>obtain⟨t',rfl⟩:=ry;exact PySem.W.ne_bytes (yh I q (congrArg not ziW))
  |_=>exact absurd (show false=true from hs) Ju
 |_=>cases y<;>exact absurd (show false=true from hs) Ju
theorem qy:OpR X (compareOp .Lt) (rI0 λi j=> .bl (decide (i<j))):=ur λ_ _ _ _ _ _ _ q=>lt_int q
theorem jK:OpR X (compareOp .LtE) (rI0 λi j=> .bl (decide (i<=j))):=ur λ_ _ _ _ _ _ _ q=>le_int q
theorem q5:OpR X (compareOp .Gt) (rI0 λi j=> .bl (decide (j<i))):=ur λ_ _ _ _ _ _ _ q=>gt_int q
theorem znG:OpR X (compareOp .GtE) (rI0 λi j=> .bl (decide (j<=i))):=ur λ_ _ _ _ _ _ _ q=>ge_int q
theorem zok:OpR X (compareOp .Is) (λx y H Q=>y= .non/\Q (.bl (decide (x= .non))) H):=by
 intro pins s σ H x y v u Q I rx ry h;obtain⟨rfl,q⟩:=h;cases ry;refine is_none_gen (yh I q ?_);cases x<;>first
  |(cases rx;rfl)
  |(obtain⟨t,rfl⟩:=rx;rfl)
theorem yu(b:Expr){op:CmpOp}(h:op≠ .In:=by decide)(h2:op≠ .NotIn:=by decide):behindInMarks op b=false:=by
 have e1:(op==CmpOp.In)=false:=by cases op<;>first|rfl|exact absurd rfl h
 have e2:(op==CmpOp.NotIn)=false:=by cases op<;>first|rfl|exact absurd rfl h2
 cases b<;>simp [behindInMarks,e1,e2]
theorem xt{op:CmpOp}(ho:OpR X (compareOp op) r)(ha:PE X a ta)(hb:PE X b tb)(hm:behindInMarks op b=false):PE X (.Compare a [op] [b] pos) (tOp r ta tb):=by
 intro pins s σ H Q I h;exact wpAny_Compare1 (jJ ha hb I h λv u s2 x y H2 I2 rx ry q=>ho pins s2 σ H2 x y v u Q I2 rx ry q) hm
def xK(t:TE):TT:=λσ H Q=>t σ H λx H'=> ∃k,x= .bl k/\Q k H'
theorem uu{op:CmpOp}(ho:OpR X (compareOp op) r)(ha:PE X a ta)(hb:PE X b tb)(hm:behindInMarks op b=false):PT X (.Compare a [op] [b] pos) (xK (tOp r ta tb)):=by
 intro pins s σ H Q I h;refine wpAny_isTrue_Compare1 (thn (ha pins s σ H _ I h) λv s1 ⟨x,H1,I1,r1,q1⟩=>thn (hb pins s1 σ H1 _ I1 q1) λu s2 ⟨y,H2,I2,r2,q2⟩=>
  thn (ho pins s2 σ H2 x y v u _ I2 r1 r2 q2) λc s3 ⟨z,H3,I3,r3,k,e,q3⟩=> ?_) hm
 subst e;cases r3;exact wpAny_truthy_bool ⟨H3,I3,q3⟩
theorem uv:(sizeLine:Nat)<2 ^ 63:=by rw[sizeLine_eq];decide
theorem zia:OpR X (binaryOp .Add) (λx y H Q=> ∃i j,x= .str i/\y= .str j/\i.length+j.length<=sizeLine/\Q (.str (i++j)) H):=by
 intro pins s σ H x y v u Q I rx ry h;obtain⟨i,j,rfl,rfl,hz,q⟩:=h;obtain⟨t,rfl⟩:=rx;obtain⟨t',rfl⟩:=ry;exact add_str (λt' tk=>⟨.str (i++j),H,I.tok _,⟨_,rfl⟩,q⟩) hz
theorem xc{x:V}(r:zB [x] us): ∃u,us= [u]/\zw x u:=by
 cases r with
 |cons r1 r2=>cases r2;exact⟨_,rfl,r1⟩
theorem jL{x:V}(r:zB [x,y] us): ∃u w',us= [u,w']/\zw x u/\zw y w':=by
 cases r with
 |cons r1 r2=>
  cases r2 with
  |cons r3 r4=>cases r4;exact⟨_,_,rfl,r1,r3⟩
theorem xu(hc:X.calm=true):yV X (.builtin "min") (λxs H Q=> ∃i j,xs= [.int i, .int j]/\Q (.int (if j<i then j else i)) H):=by
 intro pins s σ H xs us Q I r h;obtain⟨i,j,rfl,q⟩:=h;obtain⟨u,w',rfl,⟨t,rfl⟩,⟨t',rfl⟩⟩:=jL r;refine min_two_ints (I.ok.hd hc) λh' tk k=>⟨_,H,I.kept k,?_,q⟩
 by_cases hj:j<i
 ·rw[Jg hj,Jg hj];exact⟨_,rfl⟩
 ·rw[Jf hj,Jf hj];exact⟨_,rfl⟩
theorem uw:yV X (.type "int") (λxs H Q=>(∃i,xs= [.int i]/\Q (.int i) H)\/ ∃k,xs= [.bl k]/\Q (.int (if k then 1 else 0)) H):=by
 intro pins s σ H xs us Q I r h;rcases h with⟨i,rfl,q⟩|⟨k,rfl,q⟩
 ·obtain⟨u,rfl,t,rfl⟩:=xc r;exact call_int_int ⟨.int i,H,I,⟨_,rfl⟩,q⟩
 ·obtain⟨u,rfl,r1⟩:=xc r;cases r1;exact call_int_bool ⟨.int (if k then 1 else 0),H,I.tok _,⟨_,rfl⟩,q⟩
theorem zev:yV X (.builtin "divmod") (λxs H Q=> ∃i j,xs= [.int i, .int j]/\ut i j/\ ∀p,H p=none->Q (.ref p) (upd H p (.tup [.int (i / j), .int (i % j)]))):=by
 intro pins s σ H xs us Q I r h;obtain⟨i,j,rfl,⟨h1,h2⟩,q⟩:=h;obtain⟨u,w',rfl,⟨t,rfl⟩,⟨t',rfl⟩⟩:=jL r;refine divmod_int 'o' ?_ (.inl (PyProof.noPylong_small 'o'));rw[Int.fdiv_eq_ediv_of_nonneg i 'o',Int.fmod_eq_emod_of_nonneg i 'o'];have hn:H s.heap.objs.size=none:=I.hok.fresh (Je _);refine⟨.ref s.heap.objs.size,_,?_,rfl,q _ hn⟩;refine I.laid (λb o e=>Qa _ e) (Je _) ⟨by simp only[Jp,List.length_nil];rw[sizeLine_eq];decide, [.int (i / j) s.toks, .int (i % j) (s.toks+1)], .cons ⟨_,rfl⟩ (.cons ⟨_,rfl⟩ .nil),?_⟩;exact⟨_,Qc s.heap rfl,rfl,0,rfl⟩
end
structure ObjM (h:Heap) (x dx C:Addr) (mA:Str->Option Value):Prop where
 obj:h.get? x=some (PySem.W.instObj C dx)
 ns:h.Ns1 dx mA
 ne:dx≠x
theorem zjK{dx:Addr}{mA:Str->Option Value}(n:h.Ns1 dx mA): ∃od,h.get? dx=some od/\ ∀name,PySem.W.lookIn name od=some (mA name):=by
 obtain⟨o,es,ep,ho,hd,hk,_,hm⟩:=n;refine⟨o,ho,λname=> ?_⟩;have e:=hm name;unfold nsFind findBy at e;rw[<-Array.find?_toList] at e;unfold PySem.W.lookIn;rw[hd];dsimp only;split
 ·rename_i y q;rw[q] at e;exact congrArg some e
 ·rename_i q;rw[q] at e;have a:es.toList.any (·.refKey)=false:=by
   rw[List.any_eq_false];intro y hy;obtain⟨z,t,hkey⟩:=hk y (Array.mem_toList_iff.mp hy);simp [DictEntry.refKey,hkey]
  have a': ¬es.toList.any (·.refKey)=true:=by rw[a];exact Ju
  rw[Jf a'];exact congrArg some e
theorem ObjM.look{x dx:Addr}{mA:Str->Option Value}(I:ObjM h x dx C mA): ∃od,PySem.W.InstAt h x (PySem.W.instObj C dx) C (some od)/\ ∀name,PySem.W.lookIn name od=some (mA name):=
 let ⟨od,ho,hl⟩:=zjK I.ns
 ⟨od,⟨I.obj,rfl,rfl,ho⟩,hl⟩
section
variable {prog:Program} {w:World} {A:Around} {E:Value->Shared->Prop} {s:Shared} {K:Fg} {x dx C f:Addr} {mA:Str->Option Value} {name:Str} {v:Value}
theorem zmD{expr:Bool}{Q:Value->Shared->Prop}(X:K.In s.heap)(I:ObjM s.heap x dx C mA)(hg:PySem.W.plainGet K C name=true)(hh:PySem.W.hasDictIn K C=true)
  (ha:PySem.W.findIn K (.ref C) name=some none) (hv:mA name=some v) (hv':PySem.W.handedIn v=true) (h:Q v {s with toks:=s.toks+1}):
  wpAny (model prog w) A (getAttr (.ref x) name expr) Q E s:=by
 obtain⟨od,J,hl⟩:=I.look;exact PySem.W.get_value X J (PySem.W.plainGet_of hg).1 (PySem.W.findObj_own hh ha rfl (by rw[hl,hv])) hv' h
theorem zkv{pl:Sem Bool}{Q:Value×List Value->Shared->Prop}(X:K.In s.heap)(I:ObjM s.heap x dx C mA)(hg:PySem.W.plainGet K C name=true)
  (hf:PySem.W.findIn K (.ref C) name=some (some (.ref f))) (ht:PySem.W.isFn K (.ref f)=true) (hv:mA name=none) (h:Q (.ref f, [.ref x]) s):
  wpAny (model prog w) A (getMethod (.ref x) name pl) Q E s:=by
 obtain⟨od,J,hl⟩:=I.look;exact PySem.W.method_fn X J (PySem.W.plainGet_of hg).1 (PySem.W.plainGet_of hg).2 hf (beq_iff_eq.mp ht) (by show (PySem.W.lookIn name od).map (·.isSome)=some false;rw[hl,hv];rfl) h
theorem zmE{ns:List Str}{Q:Unit->Shared->Prop}(X:K.In s.heap)(I:ObjM s.heap x dx C mA)
  (hs:PySem.W.findIn K (.ref C) "__setattr__"=some (some (.builtin "object.__setattr__"))) (hp:PySem.W.plainOver K C=true) (ht:PySem.W.takerIn K C name=some none) (hh:PySem.W.hasDictIn K C=true)
  (hw:PySem.Within mA ns) (hsz:ns.length<=sizeLine)
  (h: ∀h',ObjM h' x dx C (λy=>if y=name then some v else mA y)->Heap.SameBut dx s.heap h'->Q () {s with heap:=h',toks:=s.toks+2}):
  wpAny (model prog w) A (setAttr (.ref x) name v) Q E s:=by
 obtain⟨od,J,hl⟩:=I.look;refine PySem.W.set_plain X J hs (PySem.W.osa_open (s:={s with toks:=s.toks+1}) (r:=none) X J hp ht λb=> ?_);obtain⟨cd,hc,hd'⟩:=PySem.W.any_some hh;have hx:s.heap.get? x=some ⟨.ref C,some dx, .plain, #[]⟩:=I.obj;refine JW (JX (JW (JW (wpAny_loadPart hx (JW (PySem.W.Looks.here (s:={s with toks:=s.toks+1}) (PySem.W.looks_clsIn X hc) ?_))))));rw[hd'];refine JX (a:=some dx) (JW (JX (JW ?_)));refine wpAny_nsSet1 (s:={s with toks:=s.toks+1}) I.ns λh' hn2 hs2=> ?_;obtain⟨oD,esD,epD,hoD,hdD,hcD⟩:=hn2.count (PySem.Within.cons name v hw);refine JW (wpAny_lookBehind hoD (by rw[hdD];exact pastItsLine_dict (JE hcD (by rw[Jp];omega))) ?_);exact JX (h _ ⟨(hs2.2 _ (Ne.symm I.ne)).trans I.obj,hn2,I.ne⟩ hs2)
theorem zkw{R:Result->Shared->Prop}{vs:List Value}{kw:List (Str×Value)}(X:K.In s.heap)(hm:PySem.W.makesIn K C=true)
  (hi:PySem.W.findIn K (.ref C) "__init__"=some (some (.ref f))) (hf:PySem.W.typeIn K (.ref f)=some (.type "function"))
  (h:codeAny (model prog w) (A.under (.builtin "type.__call__" ⟨.ref C::vs,kw⟩)) (.call (.ref f) ⟨.ref (s.heap.objs.size+1)::vs,kw⟩) (PySem.W.InitBack (s.heap.objs.size+1) R)
   {s with heap:=(s.heap.push PySem.W.emptyDict).push (PySem.W.instObj C s.heap.objs.size)}):
  codeAny (model prog w) A (.call (.ref C) ⟨vs,kw⟩) R s:=by
 obtain⟨hh,g,d,t,os⟩:=s;exact PySem.W.make_core (PySem.W.makes_of X hm) (PySem.W.looks_findIn X hi) (λself=>PySem.W.bind_fn X self hf) (.inl rfl) h
end
def yN(f:Str)(v:V):List (Str×V)->List (Str×V)
 | []=> [(f,v)]
 |(g,x)::r=>if g=f then (g,v)::r else (g,x)::yN f v r
theorem zew(f g:Str)(v:V): ∀fs:List (Str×V),(yN f v fs).lookup g=if g=f then some v else fs.lookup g
 | []=>by
  show List.lookup g [(f,v)]=_;by_cases h:g=f
  ·have hb:(g==f)=true:=beq_iff_eq.mpr h;simp only[List.lookup,hb,Jg h]
  ·have hb:(g==f)=false:=beq_eq_false_iff_ne.mpr h;simp only[List.lookup,hb,Jf h]
 |(k,x)::r=>by
  have ih:=zew f g v r;rw[show yN f v ((k,x)::r)=(if k=f then (k,v)::r else (k,x)::yN f v r) from rfl];by_cases hk:k=f
  ·rw[Jg hk];by_cases h:g=k
   ·have hb:(g==k)=true:=beq_iff_eq.mpr h;simp only[List.lookup,hb,Jg (h.trans hk)]
   ·have hb:(g==k)=false:=beq_eq_false_iff_ne.mpr h;simp only[List.lookup,hb,Jf (λe:g=f=>h (e.trans hk.symm))]
  ·rw[Jf hk];by_cases h:g=k
   ·have hb:(g==k)=true:=beq_iff_eq.mpr h;simp only[List.lookup,hb,Jf (λe:g=f=>hk (h.symm.trans e))]
   ·have hb:(g==k)=false:=beq_eq_false_iff_ne.mpr h;simp only[List.lookup,hb];exact ih
theorem jM(f:Str)(v:V): ∀fs:List (Str×V),f∈(yN f v fs).map (·.1)/\ ∀g,g∈fs.map (·.1)->g∈(yN f v fs).map (·.1)
 | []=>⟨by simp [yN],λg h=>by simp at h⟩
 |(k,x)::r=>by
  obtain⟨i1,i2⟩:=jM f v r;rw[show yN f v ((k,x)::r)=(if k=f then (k,v)::r else (k,x)::yN f v r) from rfl];by_cases hk:k=f
  ·rw[Jg hk];subst hk;exact⟨by simp,λg h=>by simpa using h⟩
  ·rw[Jf hk];refine⟨?_,λg h=> ?_⟩
   ·rw[JA];exact Jl _ i1
   ·rw[JA] at h ⊢;rcases JD.mp h with e|e
    ·exact JD.mpr (.inl e)
    ·exact Jl _ (i2 g e)
theorem zex(f:Str)(v:V): ∀fs:List (Str×V),(yN f v fs).length<=fs.length+1
 | []=>by simp [yN]
 |(k,x)::r=>by
  have ih:=zex f v r;rw[show yN f v ((k,x)::r)=(if k=f then (k,v)::r else (k,x)::yN f v r) from rfl];by_cases hk:k=f
  ·rw[Jg hk,Jp,Jp];omega
  ·rw[Jf hk,Jp,Jp];omega
theorem qa.some_of{o:Option Value}(r:qa (some v) o): ∃u,o=some u/\zw v u:=by
 cases o with
 |none=>exact(show False from r).elim
 |some u=>exact⟨u,rfl,r⟩
theorem qa.none_of{o:Option Value}(r:qa none o):o=none:=by
 cases o with
 |none=>rfl
 |some u=>exact(show False from r).elim
theorem zjL(r:zw v u):PySem.W.handedIn u=true:=by
 cases v with
 |non=>cases (show u=Value.none from r);rfl
 |bl b=>cases (show u=Value.bool b from r);rfl
 |int i=>obtain⟨t,e⟩:=(show∃t,u=Value.int i t from r);cases e;rfl
 |str x=>obtain⟨t,e⟩:=(show∃t,u=Value.str x t from r);cases e;rfl
 |byt b=>obtain⟨t,e⟩:=(show∃t,u=Value.bytes b t from r);cases e;rfl
 |flt b=>obtain⟨t,e⟩:=(show∃t,u=Value.float b t from r);cases e;rfl
 |ref a=>cases (show u=Value.ref a from r);rfl
 |ty n=>cases (show u=Value.type n from r);rfl
section
variable {P:Program} {w:World} {H H':Hp} {h h':Heap} {a C dx:Addr} {fs fs':List (Str×V)}
theorem ux(hok:HOk P w H h)(e:H a=some (.ins C dx fs)): ∃mA,ObjM h a dx C mA/\(∀f,qa (fs.lookup f) (mA f))/\PySem.Within mA (fs.map (·.1))/\fs.length<=1000/\H dx=some (.own a):=by
 obtain⟨d,z,ne,ob,mA,n,r,q⟩:=(show z6 P w H h a (.ins C dx fs) from hok a _ e)
 exact⟨mA,⟨ob,n,ne⟩,r,q,z,d⟩
end
structure Cls (K:Fg) (C:Addr):Prop where
 pg:PySem.W.plainGet K C Str.empty=true
 hd:PySem.W.hasDictIn K C=true
 po:PySem.W.plainOver K C=true
 sa:PySem.W.findIn K (.ref C) "__setattr__"=some (some (.builtin "object.__setattr__"))
theorem Cls.get(c:Cls K C)(f:Str):PySem.W.plainGet K C f=true:=c.pg
def xv(K:Fg)(C:Addr)(f:Str):Prop:=PySem.W.findIn K (.ref C) f=some none
theorem xv.taker{f:Str}(n:xv K C f):PySem.W.takerIn K C f=some none:=by
 unfold PySem.W.takerIn;rw[show PySem.W.findIn K (.ref C) f=some none from n];rfl
structure Con (K:Fg) (C:Addr) (f:Str) (v:V) (u:Value):Prop where
 at_:PySem.W.findIn K (.ref C) f=some (some u)
 rel:zw v u
 get:PySem.W.specialIn K u "__get__"=some none
 cp:PySem.W.copiedNames.contains f=false
structure Meth (K:Fg) (C:Addr) (m:Str) (f:Addr):Prop where
 at_:PySem.W.findIn K (.ref C) m=some (some (.ref f))
 fn:PySem.W.isFn K (.ref f)=true
 kp:PySem.W.keepIn K (.ref f)=true
section
variable {X:Cx} {pins:List (Addr×Obj)} {σ:St} {H:Hp} {s:Shared} {a C dx:Addr} {fs:List (Str×V)} {f:Str} {v:V} {A:Around} {E:Value->Shared->Prop}
theorem zeV{b:Bool}{Q:Value->Shared->Prop}(I:Inv X pins σ H s)(e:H a=some (.ins C dx fs))(c:Cls X.K C)(n:xv X.K C f)(l:fs.lookup f=some v)
  (h: ∀u s',Inv X pins σ H s'->zw v u->Q u s'):wpAny (model X.prog X.w) A (getAttr (.ref a) f b) Q E s:=by
 obtain⟨mA,O,r,_,_,_⟩:=ux I.hok e;obtain⟨u,hu,ru⟩:=qa.some_of (v:=v) (o:=mA f) (by rw[<-l];exact r f);exact zmD I.kIn O (c.get f) c.hd n hu (zjL ru) (h u _ (I.tok _) ru)
theorem zeW{m:Str}{g:Addr}{pl:Sem Bool}{Q:Value×List Value->Shared->Prop}(I:Inv X pins σ H s)(e:H a=some (.ins C dx fs))(c:Cls X.K C)(k:Meth X.K C m g)(l:fs.lookup m=none)
  (h:Q (.ref g, [.ref a]) s):wpAny (model X.prog X.w) A (getMethod (.ref a) m pl) Q E s:=by
 obtain⟨mA,O,r,_,_,_⟩:=ux I.hok e;have hn:mA m=none:=qa.none_of (by rw[<-l];exact r m);exact zkv I.kIn O (c.get m) k.at_ k.fn hn h
theorem zeX{Q:Unit->Shared->Prop}(I:Inv X pins σ H s)(e:H a=some (.ins C dx fs))(c:Cls X.K C)(n:xv X.K C f)(hl:fs.length<1000)(ry:zw y u)
  (h: ∀s',Inv X pins σ (upd H a (.ins C dx (yN f y fs))) s'->Q () s'):wpAny (model X.prog X.w) A (setAttr (.ref a) f u) Q E s:=by
 obtain⟨mA,O,r,wi,_,ho⟩:=ux I.hok e;have hz:(fs.map (·.1)).length<=sizeLine:=by rw[Ja,sizeLine_eq];omega
 refine zmE I.kIn O c.sa c.po n.taker c.hd wi hz λh' O' sb=>h _ ?_;have hd: ∃o,h'.get? dx=some o:=let ⟨o,_,_,e',_⟩:=O'.ns;⟨o,e'⟩;refine I.write (x:=a) (e:=dx) (by rw[e];exact True.intro) (.inr ho) (λb q hb z=>(sb.2 b hb).trans z) hd ?_;refine⟨by rw[zu O.ne];exact ho,?_,O.ne,O'.obj,_,O'.ns,λg=> ?_,λg hg=> ?_⟩
 ·have:=zex f y fs;omega
 ·show qa ((yN f y fs).lookup g) (if g=f then some u else mA g);rw[zew];by_cases q:g=f
  ·rw[Jg q,Jg q];exact ry
  ·rw[Jf q,Jf q];exact r g
 ·by_cases q:g=f
  ·rw[q];exact(jM f y fs).1
  ·refine(jM f y fs).2 g (wi g λz=>hg ?_);show (if g=f then some u else mA g)=none;rw[Jf q];exact z
theorem Inv.made(I:Inv X pins σ H s):Inv X pins σ (upd (upd H s.heap.objs.size (.own (s.heap.objs.size+1))) (s.heap.objs.size+1) (.ins C s.heap.objs.size []))
  {s with heap:=(s.heap.push PySem.W.emptyDict).push (PySem.W.instObj C s.heap.objs.size)}:=by
 have e1:(s.heap.push PySem.W.emptyDict).get? s.heap.objs.size=some PySem.W.emptyDict:=Qc s.heap rfl;have e2:((s.heap.push PySem.W.emptyDict).push (PySem.W.instObj C s.heap.objs.size)).get? (s.heap.objs.size+1)=some (PySem.W.instObj C s.heap.objs.size):=by
  have:=Qc (s.heap.push PySem.W.emptyDict) (o:=PySem.W.instObj C s.heap.objs.size) rfl;rwa[Heap.size_push] at this
 have e3:(s.heap.push PySem.W.emptyDict).Ns s.heap.objs.size (λ_=>none):=⟨PySem.W.emptyDict, #[],_,e1,rfl,(λe he=>absurd he (by simp)),λ_=>rfl⟩
 have I1:=I.laid (a:=s.heap.objs.size) (o:= .own (s.heap.objs.size+1)) (h':=s.heap.push PySem.W.emptyDict) (t':=s.toks) (λb u q=>Qa _ q) (Je _) ⟨_,e1⟩;refine I1.laid (a:=s.heap.objs.size+1) (o:= .ins C s.heap.objs.size []) (t':=s.toks) (λb u q=>Qa _ q) (Nat.le_of_eq (Heap.size_push _ _)) ?_;have ne:s.heap.objs.size≠s.heap.objs.size+1:=JK (Nat.lt_succ_self _);refine⟨by rw[zu ne,zF],Jv _,ne,e2,λ_=>none,(Heap.Ns1.of_empty e3).at λo q=>Qa _ q,λ_=>True.intro,λy hy=>absurd rfl hy⟩
theorem zmF{prog:Program}{w:World}{env:Env}{pos:Pos}{s:Shared}{Q:Value->Shared->Prop}(hb:attributeBase e f env (eval e env)=eval e env)
  (h:wpAny (model prog w) A (eval e env) (λo s₁=>wpAny (model prog w) A (getAttr o f true) Q E s₁) E s):wpAny (model prog w) A (eval (.Attribute e f pos) env) Q E s:=
 Attribute_any_ h (by rw[arm_eval_Attribute,hb])
end
def zp2(K:Fg)(ta:TE)(f:Str):TE:=λσ H Q=>ta σ H λx H1=> ∃a C dx fs v,x= .ref a/\H1 a=some (.ins C dx fs)/\Cls K C/\xv K C f/\fs.lookup f=some v/\Q v H1
def zp3(K:Fg)(ta tv:TE)(f:Str):TS:=λD σ H=>tv σ H λy H1=>ta σ H1 λx H2=> ∃a C dx fs,x= .ref a/\H2 a=some (.ins C dx fs)/\Cls K C/\xv K C f/\fs.length<1000/\
 D.nx σ (upd H2 a (.ins C dx (yN f y fs)))
def jN(X:Cx)(op:Operator)(rd:V->V->Hp->VK->Prop):Prop:=
 ∀(pins:List (Addr×Obj)) (s:Shared) (σ:St) (H:Hp) (x y:V) (u v:Value) (Q:VK),Inv X pins σ H s->zw x u->zw y v->rd x y H Q->wpAny (model X.prog X.w) X.A (inplaceOp op u v) (EP X pins σ Q) X.xe s
def ziX(K:Fg)(ta tv:TE)(rd:V->V->Hp->VK->Prop)(f:Str):TS:=λD σ H=>ta σ H λx H1=> ∃a C dx fs v,x= .ref a/\H1 a=some (.ins C dx fs)/\Cls K C/\xv K C f/\fs.lookup f=some v/\
 tv σ H1 λy H2=>rd v y H2 λz H3=> ∃dx' fs',H3 a=some (.ins C dx' fs')/\fs'.length<1000/\D.nx σ (upd H3 a (.ins C dx' (yN f z fs')))
section
variable {X:Cx} {o e value:Expr} {f:Str} {pos pos' tpos:Pos} {ta tv:TE}
theorem vi(he:PE X e ta)(hb:attributeBase e f X.env (eval e X.env)=eval e X.env):PE X (.Attribute e f pos) (zp2 X.K ta f):=by
 intro pins s σ H Q I h;refine zmF hb (thn (he pins s σ H _ I h) λu s1 ⟨x,H1,I1,rx,a,C,dx,fs,v,ex,ea,c,n,l,q⟩=> ?_);subst ex;obtain rfl:u=Value.ref a:=rx;exact zeV I1 ea c n l λu' s2 I2 ru=>⟨v,H1,I2,ru,q⟩
theorem uy(ha:PE X o ta)(hv:PE X value tv)(hs:swapsWith value (some (.Attribute o f pos')) pos.line X.env=pure false):PS X (.Assign [.Attribute o f pos'] value pos) (zp3 X.K ta tv f):=by
 intro pins s σ H D I h;refine plainObj_wpAny_Assign_Attribute (thn (hv pins s σ H _ I h) λu s1 ⟨y,H1,I1,ry,q⟩=>thn (ha pins s1 σ H1 _ I1 q) λov s2 ⟨x,H2,I2,rx,a,C,dx,fs,ex,ea,c,n,l,q2⟩=> ?_) hs;subst ex;obtain rfl:ov=Value.ref a:=rx;exact zeX I2 ea c n l ry λs3 I3=>⟨σ,_,I3,q2⟩
theorem vK{rd:V->V->Hp->VK->Prop}(ha:PE X o ta)(hv:PE X value tv)(hop:jN X op rd):PS X (.AugAssign (.Attribute o f tpos) op value pos) (ziX X.K ta tv rd f):=by
 intro pins s σ H D I h;refine wpAny_AugAssign_AttributeAny (thn (ha pins s σ H _ I h) λov s1 ⟨x,H1,I1,rx,a,C,dx,fs,v,ex,ea,c,n,l,q⟩=> ?_);subst ex;obtain rfl:ov=Value.ref a:=rx;refine zeV I1 ea c n l λu s2 I2 ru=>thn (hv pins s2 σ H1 _ I2 q) λw3 s3 ⟨y,H2,I3,ry,q3⟩=>thn (hop pins s3 σ H2 v y u w3 _ I3 ru ry q3) λw4 s4 ⟨z,H3,I4,rz,dx',fs',ea',l',q4⟩=> ?_;exact zeX I4 ea' c n l' rz λs5 I5=>⟨σ,_,I5,q4⟩
def zp4:V->V->Hp->VK->Prop:=λx y H Q=> ∃i j,x= .int i/\y= .int j/\Q (.int (i+j)) H
def zp5:V->V->Hp->VK->Prop:=λx y H Q=> ∃i j,x= .int i/\y= .int j/\Q (.int (i - j)) H
theorem jO:jN X .Add zp4:=by
 rintro pins s σ H x y u v Q I rx ry ⟨i,j,rfl,rfl,q⟩;obtain⟨t,rfl⟩:=(show∃t,u=Value.int i t from rx)
 obtain⟨t',rfl⟩:=(show∃t',v=Value.int j t' from ry)
 exact PyProof.Rows.iadd_int ⟨.int (i+j),H,I.tok _,⟨_,rfl⟩,q⟩
theorem zkx:jN X .Sub zp5:=by
 rintro pins s σ H x y u v Q I rx ry ⟨i,j,rfl,rfl,q⟩;obtain⟨t,rfl⟩:=(show∃t,u=Value.int i t from rx)
 obtain⟨t',rfl⟩:=(show∃t',v=Value.int j t' from ry)
 exact PyProof.Rows.isub_int ⟨.int (i - j),H,I.tok _,⟨_,rfl⟩,q⟩
end
section
variable {X:Cx} {pins:List (Addr×Obj)} {σ:St} {H:Hp} {s:Shared} {A:Around} {E:Value->Shared->Prop} {Q:Value->Shared->Prop} {c:Value} {b:Bool}
inductive TyOf (K:Fg) (H:Hp):V->Value->Prop where
 |non:TyOf K H .non (.type "NoneType")
 |bl (x:Bool):TyOf K H (.bl x) (.type "bool")
 |int (i:Int):TyOf K H (.int i) (.type "int")
 |str (x:Str):TyOf K H (.str x) (.type "str")
 |flt (x:UInt64):TyOf K H (.flt x) (.type "float")
 |lst {a:Addr} {xs:List V} (e:H a=some (.lst xs)):TyOf K H (.ref a) (.type "list")
 |frz {a:Addr} {o:Obj} {xs:List V} (e:H a=some (.frz o (.lst xs))):TyOf K H (.ref a) (.type "list")
 |tup {a:Addr} {xs:List V} (e:H a=some (.tup xs)):TyOf K H (.ref a) (.type "tuple")
 |dK {a:Addr} {kvs:List (Key×V)} (e:H a=some (.dK kvs)):TyOf K H (.ref a) (.type "dict")
 |dT {a:Addr} {kvs:List (List Key×V)} (e:H a=some (.dT kvs)):TyOf K H (.ref a) (.type "dict")
 |ins {a C dx:Addr} {fs:List (Str×V)} (e:H a=some (.ins C dx fs)) (cl:Cls K C) (ha:PySem.W.findIn K (.ref C) "__class__"=some (some (.builtin "object.__class__")))
   (hn:PySem.W.specialIn K (.builtin "object.__class__") "__get__"=some (some (.builtin "getset_descriptor.__get__"))) (htk:PySem.W.takesIn K (.builtin "object.__class__")=some true)
   (hm:PySem.W.mroIn K C (.type "object")=some true):TyOf K H (.ref a) (.ref C)
theorem zjM{x:V}{t:Value}(I:Inv X pins σ H s)(rx:zw x u)(ty:TyOf X.K H x t)(e:PySem.W.kitOne X.K t c=some b)(h: ∀tk,Q (.bool b) {s with toks:=tk}):
  wpAny (model X.prog X.w) A (call (.builtin "isinstance") [u,c]) Q E s:=by
 cases ty with
 |non=>cases (show u=Value.none from rx);exact PySem.W.kia_one PySem.W.kitx_none I.kIn True.intro e (λz=>nomatch z) h
 |bl y=>cases (show u=Value.bool y from rx);exact PySem.W.kia_one PySem.W.kitx_bool I.kIn True.intro e (λz=>nomatch z) h
 |int i=>obtain⟨t,q⟩:=(show∃t,u=Value.int i t from rx);cases q;exact PySem.W.kia_one PySem.W.kitx_int I.kIn True.intro e (λz=>nomatch z) h
 |str y=>obtain⟨t,q⟩:=(show∃t,u=Value.str y t from rx);cases q;exact PySem.W.kia_one PySem.W.kitx_str I.kIn True.intro e (λz=>nomatch z) h
 |flt y=>obtain⟨t,q⟩:=(show∃t,u=Value.float y t from rx);cases q;exact PySem.W.kia_one PySem.W.kitx_float I.kIn True.intro e (λz=>nomatch z) h
 | @lst a xs ea=>
  cases (show u=Value.ref a from rx);obtain⟨_,_,n,_,h1⟩:=(show z6 X.prog X.w H s.heap a (.lst xs) from I.hok a _ ea)
  exact PySem.W.kia_one PySem.W.kitx_list I.kIn ⟨_,h1,rfl⟩ e (λz=>nomatch z) h
 | @frz a ob xs ea=>
  cases (show u=Value.ref a from rx);obtain⟨_,_,_,n,_,h1⟩:=(show z6 X.prog X.w H s.heap a (.frz ob (.lst xs)) from I.hok a _ ea)
  exact PySem.W.kia_one PySem.W.kitx_list I.kIn ⟨_,h1,rfl⟩ e (λz=>nomatch z) h
 | @tup a xs ea=>
  cases (show u=Value.ref a from rx);obtain⟨_,_,_,p⟩:=(show z6 X.prog X.w H s.heap a (.tup xs) from I.hok a _ ea)
  obtain⟨o,h1,h2,_⟩:=p;exact PySem.W.kia_one PySem.W.kitx_tuple I.kIn ⟨o,h1,h2⟩ e (λz=>nomatch z) h
 | @dK a kvs ea=>
  cases (show u=Value.ref a from rx);obtain⟨_,_,vs,_,p⟩:=(show z6 X.prog X.w H s.heap a (.dK kvs) from I.hok a _ ea)
  obtain⟨o,es,ep,h1,h2,_⟩:=p;exact PySem.W.kia_one PySem.W.kitx_dict I.kIn ⟨o,h1,h2.1⟩ e (λz=>nomatch z) h
 | @dT a kvs ea=>
  cases (show u=Value.ref a from rx);obtain⟨_,_,xs,_,o,es,ep,h1,h2,_⟩:=(show z6 X.prog X.w H s.heap a (.dT kvs) from I.hok a _ ea)
  exact PySem.W.kia_one PySem.W.kitx_dict I.kIn ⟨o,h1,h2.1⟩ e (λz=>nomatch z) h
 | @ins a C dx fs ea cl ha hn htk hm=>
  cases (show u=Value.ref a from rx);obtain⟨mA,O,_⟩:=ux I.hok ea;obtain⟨od,J,_⟩:=O.look;exact PySem.W.kia_one (PySem.W.kitx_own (cl.get _) cl.hd ha hn htk hm) I.kIn J e (λz=>nomatch z) h
end
structure Room (k:Nat) (A:Around):Prop where
 hd:A.handled=none
 dp:A.depth+3*k+5<recursionLimit
 un:A.units+16*k+200<cLine
theorem Room.mono{j k:Nat}(r:Room k A)(h:j<=k):Room j A:=⟨r.hd,by have:=r.dp;omega,by have:=r.un;omega⟩
theorem Room.deeper{k:Nat}{A:Around}(r:Room (k+1) A)(env:Env):Room k (A.deeper env):=
 ⟨r.hd,by have:=r.dp;show A.depth+1+3*k+5<_;omega,by have:=r.un;show A.units+3+16*k+200<_;omega⟩
theorem Room.in1{k:Nat}{A:Around}(r:Room (k+1) A):Room k A.in1:=
 ⟨r.hd,by have:=r.dp;show A.depth+3*k+5<_;omega,by have:=r.un;show A.units+1+16*k+200<_;omega⟩
theorem zic:(A.under (.builtin "type.__call__" ⟨.ref C::us,kw⟩)).depth=A.depth+1:=by
 first|rfl|simp [Around.under,Code.weight,Code.isCreation,Code.isGuard,Code.isCaller,Code.frames,Code.isFrame,guardIds]
theorem zid:(A.under (.builtin "type.__call__" ⟨.ref C::us,kw⟩)).units=A.units+1:=by
 first|rfl|simp [Around.under,Code.cUnits,Code.frames,Code.isFrame]
theorem Room.make{k:Nat}(r:Room (k+1) A)(C:Addr)(us:List Value)(kw:List (Str×Value)):Room k (A.under (.builtin "type.__call__" ⟨.ref C::us,kw⟩)):=
 ⟨r.hd,by have:=r.dp;rw[zic];omega,by have:=r.un;rw[zid];omega⟩
theorem Room.depth{k:Nat}{A:Around}(r:Room k A):A.depth<recursionLimit:=by have:=r.dp;omega
theorem Room.units{k:Nat}{A:Around}(r:Room k A):A.units+64<cLine:=by have:=r.un;omega
def uz:TA:=λ_ H Q=>Q [] H
def znH(ta:TE)(tr:TA):TA:=λσ H Q=>ta σ H λx H1=>tr σ H1 λxs H2=>Q (x::xs) H2
section
variable {X:Cx} {e:Expr} {es:List Expr} {te:TE} {t:TA} {pos:Pos}
theorem ze:PA X [] uz:=λ_ _ _ _ H Q I h=>Calls.spliced_nil ⟨[],H,I, .nil,h⟩
theorem zb(ha:PE X e te)(hr:PA X es t)(hs:starEach (e::es) X.env=(false,eval e X.env)::starEach es X.env:=by rfl):PA X (e::es) (znH te t):=by
 intro pos pins s σ H Q I h;rw[hs];show wpAny _ _ (spliced ((false,eval e X.env)::backTo pos (starEach es X.env))) _ _ s;refine Calls.spliced_cons (thn (ha pins s σ H _ I h) λu s1 ⟨x,H1,I1,r1,q1⟩=> ?_);exact thn (hr pos pins s1 σ H1 _ I1 q1) λus s2 ⟨xs,H2,I2,r2,q2⟩=>⟨x::xs,H2,I2, .cons r1 r2,q2⟩
def zp6(t:TA):TE:=λσ H Q=>t σ H λxs H1=>xs.length<=sizeLine/\ ∀p,H1 p=none->Q (.ref p) (upd H1 p (.tup xs))
theorem zom{x1}(h:PA X es t):PE X (.Tuple es x1 pos) (zp6 t):=by
 intro pins s σ H Q I hq;refine wpAny_Tuple_spliced (thn (h pos pins s σ H _ I hq) λus s1 ⟨xs,H1,I1,r,z,q⟩=>⟨by rw[<-r.length];exact z,?_⟩);have hf:H1 s1.heap.objs.size=none:=I1.hok.fresh (Je _);refine⟨.ref s1.heap.objs.size,upd H1 s1.heap.objs.size (.tup xs),I1.laid (t':=s1.toks) (λb u e=>Qa _ e) (Je _) ?_,rfl,q _ hf⟩;exact⟨z,us,r,⟨_,Qc _ rfl,rfl,_,rfl⟩⟩
end
abbrev Sp:=List V->Hp->VK->XK->Prop
abbrev CXT:=List Env->Hp->Shared->XK->Value->Shared->Prop
structure Env0 (P:Program) (w:World) (K:Fg) (mg:Str->Option Value) (base:Heap) (A:Around) (outer:List Env) (s:Shared) (H:Hp):Prop where
 frames:A.frames=some outer
 mod:Mod K mg base
 bs: ∀b o,base.get? b=some o->s.heap.get? b=some o/\H b=none
 bsz:base.objs.size<=s.heap.objs.size
 funs:s.heap.FunFrames base outer
 frf: ∀b∈frs outer,H b=none
 hok:HOk P w H s.heap
 bare:AllBare s.gens
def CE(outer:List Env)(P:Program)(w:World)(H:Hp)(s:Shared)(Q:VK)(u:Value)(s':Shared):Prop:=
 ∃v H',s'.os=s.os/\AllBare s'.gens/\Un (frs outer) [] H H' s.heap s'.heap/\HOk P w H' s'.heap/\zw v u/\Q v H'
def CR(CX:CXT)(outer:List Env)(P:Program)(w:World)(H:Hp)(s:Shared)(Q:VK)(E:XK)(r:Result)(s':Shared):Prop:=
 match r with
 | .ok (.ret u)=>CE outer P w H s Q u s'
 | .ok _=>False
 | .error e=>CX outer H s E e s'
structure FnOk (P:Program) (w:World) (K:Fg) (mg:Str->Option Value) (base:Heap) (CX:CXT) (k:Nat) (f:Addr) (fd:FuncData) (ps:List Str) (sp:Sp):Prop where
 len: ∀vs H Q E,sp vs H Q E->vs.length=ps.length
 run: ∀(A:Around) (outer:List Env) (s:Shared) (H:Hp) (args:Args) (us:List Value) (vs:List V) (Q:VK) (E:XK),Room k A->Env0 P w K mg base A outer s H->BindsTo s fd args (ps.zip us)->zB vs us->sp vs H Q E->
  codeAny (model P w) A (.call (.ref f) args) (CR CX outer P w H s Q E) s
theorem FnOk.mono{P:Program}{w:World}{K:Fg}{mg:Str->Option Value}{base:Heap}{CX:CXT}{j k:Nat}{f:Addr}{fd:FuncData}{ps:List Str}{sp:Sp}(F:FnOk P w K mg base CX j f fd ps sp)(h:j<=k):
  FnOk P w K mg base CX k f fd ps sp:=⟨F.len,λA outer s H args us vs Q E hr=>F.run A outer s H args us vs Q E (hr.mono h)⟩
theorem Env0.make{mg:Str->Option Value}{outer:List Env}(e:Env0 P w K mg base A outer s H)(C:Addr)(us:List Value)(kw:List (Str×Value)):
  Env0 P w K mg base (A.under (.builtin "type.__call__" ⟨.ref C::us,kw⟩)) outer s H:=⟨by first|exact e.frames|(simpa [Around.under,Code.envs,Code.isFrame,pushEnvs] using e.frames),e.mod,e.bs,e.bsz,e.funs,e.frf,e.hok,e.bare⟩
theorem Env0.in1{P:Program}{w:World}{K:Fg}{mg:Str->Option Value}{base:Heap}{A:Around}{outer:List Env}{s:Shared}{H:Hp}(e:Env0 P w K mg base A outer s H):
  Env0 P w K mg base A.in1 outer s H:=⟨e.frames,e.mod,e.bs,e.bsz,e.funs,e.frf,e.hok,e.bare⟩
section
variable {X:Cx} {pins:List (Addr×Obj)} {σ:St} {H:Hp} {s s':Shared}
theorem Inv.env0(I:Inv X pins σ H s):Env0 X.prog X.w X.K X.mg X.base X.A X.stack s H:=
 ⟨I.ok.frames,I.ok.mod,I.bs,JE I.ok.bsz I.sz,I.stack,I.stkFree,I.hok,I.bare⟩
theorem Inv.after{Q:VK}(I:Inv X pins σ H s)(h:CE X.stack X.prog X.w H s Q u s'):EP X pins σ Q u s':=by
 obtain⟨v,H',os,bare,un,hok,r,q⟩:=h;obtain⟨hh,g,d,t,os'⟩:=s';obtain rfl:os'=s.os:=os;exact⟨v,H',I.call (h':=hh) (g':=g) (d':=d) (t':=t) (ch:= []) un hok bare (λb z=>absurd z (by simp)),r,q⟩
end
def jP(C:Addr)(m:Str)(sp:Sp)(dvs:List V)(E:XK)(ta:TE)(t:TA):TE:=λσ H Q=>ta σ H λx H1=> ∃a dx fs,x= .ref a/\H1 a=some (.ins C dx fs)/\fs.lookup m=none/\
 t σ H1 λvs H2=>sp (x::(vs++dvs)) H2 Q E
def znI(C:Addr)(sp:Sp)(dvs:List V)(E:XK)(t:TA):TE:=λσ H Q=>t σ H λvs H1=> ∀x dx,H1 x=none->H1 dx=none->dx≠x->
 sp (.ref x::(vs++dvs)) (upd (upd H1 dx (.own x)) x (.ins C dx [])) (λv H2=>v= .non/\Q (.ref x) H2) E
def qc(K:Fg)(fd:FuncData)(ps:List Str)(ds:List Value):Prop:=
 ∀(s:Shared) (us:List Value),K.In s.heap->(us++ds).length=ps.length->BindsTo s fd ⟨us, []⟩ (ps.zip (us++ds))
theorem qc.all{fd:FuncData}(h: ∀us:List Value,us.length=ps.length->bindArgs fd ⟨us, []⟩=pure (ps.zip us)):qc K fd ps []:=λs us _ hl=>by
 rw[Jt] at hl ⊢;exact .of_eq (h us hl)
def vj(CX:CXT)(X:Cx)(E:XK):Prop:= ∀(pins:List (Addr×Obj)) (σ:St) (H:Hp) (s:Shared) (e:Value) (s':Shared),Inv X pins σ H s->CX X.stack H s E e s'->X.xe e s'
section
variable {X:Cx} {CX:CXT} {k:Nat} {f C:Addr} {fd:FuncData} {ps:List Str} {sp:Sp} {dvs:List V} {ds:List Value} {E:XK} {x m:Str} {p pos apos:Pos} {e o:Expr} {es:List Expr} {ta:TE} {t:TA}
theorem zkz{pins:List (Addr×Obj)}{σ:St}{H:Hp}{s:Shared}{Q:VK}{us:List Value}{vs:List V}(F:FnOk X.prog X.w X.K X.mg X.base CX k f fd ps sp)(hr:Room k X.A)(hb:qc X.K fd ps ds)(hd:zB dvs ds)(hx:vj CX X E)
  (I:Inv X pins σ H s) (r:zB vs us) (h:sp (vs++dvs) H Q E):wpAny (model X.prog X.w) X.A (call (.ref f) us) (EP X pins σ Q) X.xe s:=by
 have r2:zB (vs++dvs) (us++ds):=r.append hd;have hl:(us++ds).length=ps.length:=by rw[<-r2.length];exact F.len _ _ _ _ h
 refine wpAny_call (codeAny_mono (F.run X.A X.stack s H ⟨us, []⟩ (us++ds) (vs++dvs) Q E hr I.env0 (hb s us I.kIn hl) r2 h) λr s' hq=> ?_);cases r with
 |error e=>exact hx pins σ H s e s' I hq
 |ok fl=>
  cases fl with
  |ret u=>exact I.after hq
  |next=>exact False.elim hq
  |brk=>exact False.elim hq
  |cont=>exact False.elim hq
theorem vk{pl:Sem Bool}(he:PE X o ta)(c:Cls X.K C)(hm:Meth X.K C m f)(F:FnOk X.prog X.w X.K X.mg X.base CX k f fd ps sp)(hr:Room k X.A)(hb:qc X.K fd ps ds)(hd:zB dvs ds)(hx:vj CX X E)(ha:PA X (e::es) t)
  (hst:starEach (e::es) X.env=(false,eval e X.env)::starEach es X.env:=by rfl) (hpl:(backTo pos (starEach es X.env)).any (·.1)=false:=by rfl)
  (ht:eval (.Call (.Attribute o m apos) (e::es) [] pos) X.env=(do
   let ov<-eval o X.env
   standAt apos.atName
   let (f,first)<-holding [ov] (getMethod ov m pl)
   callWith pos f first (backTo pos (starEach (e::es) X.env)) (backToKw pos (keywordEach [] X.env))):=by rfl):
  PE X (.Call (.Attribute o m apos) (e::es) [] pos) (jP C m sp dvs E ta t):=by
 intro pins s σ H Q I h;refine PySem.W.methodCall_KW (pl:=pl) (thn (he pins s σ H _ I h) λu s1 ⟨x,H1,I1,rx,a,dx,fs,ex,ea,l,q⟩=> ?_) ht;subst ex;obtain rfl:u=Value.ref a:=rx;refine zeW I1 ea c hm l ?_;refine PySem.W.callWith_K (first:= [.ref a]) (h₀:=X.base) I.ok.mod.kin hm.kp (thn (ha pos pins s1 σ H1 _ I1 q) λus s2 ⟨vs,H2,I2,r,q2⟩=>⟨I2.kIn,?_⟩) hst hpl;exact zkz (us:= .ref a::us) (vs:= .ref a::vs) F hr hb hd hx I2 (.cons rfl r) q2
theorem zkA{pl:Sem Bool}(he:PE X o ta)(c:Cls X.K C)(hm:Meth X.K C m f)(F:FnOk X.prog X.w X.K X.mg X.base CX k f fd ps sp)(hr:Room k X.A)(hb:qc X.K fd ps ds)(hd:zB dvs ds)(hx:vj CX X E)
  (ht:eval (.Call (.Attribute o m apos) [] [] pos) X.env=(do
   let ov<-eval o X.env
   standAt apos.atName
   let (f,first)<-holding [ov] (getMethod ov m pl)
   callWith pos f first (backTo pos (starEach [] X.env)) (backToKw pos (keywordEach [] X.env))):=by rfl):
  PE X (.Call (.Attribute o m apos) [] [] pos) (jP C m sp dvs E ta uz):=by
 intro pins s σ H Q I h;refine PySem.W.methodCall_KW (pl:=pl) (thn (he pins s σ H _ I h) λu s1 ⟨x,H1,I1,rx,a,dx,fs,ex,ea,l,q⟩=> ?_) ht;subst ex;obtain rfl:u=Value.ref a:=rx;refine zeW I1 ea c hm l ?_;exact PySem.W.callWith_K0 (first:= [.ref a]) I1.kIn hm.kp (zkz (us:= [.ref a]) (vs:= [.ref a]) F hr hb hd hx I1 (.cons rfl .nil) q)
structure Mk (K:Fg) (C f:Addr):Prop where
 makes:PySem.W.makesIn K C=true
 init:PySem.W.findIn K (.ref C) "__init__"=some (some (.ref f))
 fn:PySem.W.isFn K (.ref f)=true
 kp:PySem.W.keepIn K (.ref C)=true
theorem zkB{pins:List (Addr×Obj)}{σ:St}{H:Hp}{s:Shared}{Q:VK}{us:List Value}{vs:List V}(M:Mk X.K C f)(F:FnOk X.prog X.w X.K X.mg X.base CX k f fd ps sp)(hr:Room (k+1) X.A)(hb:qc X.K fd ps ds)(hd:zB dvs ds)
  (hx:vj CX X E) (I:Inv X pins σ H s) (r:zB vs us)
  (h: ∀x dx,H x=none->H dx=none->dx≠x->sp (.ref x::(vs++dvs)) (upd (upd H dx (.own x)) x (.ins C dx [])) (λv H2=>v= .non/\Q (.ref x) H2) E):
  wpAny (model X.prog X.w) X.A (call (.ref C) us) (EP X pins σ Q) X.xe s:=by
 have hq:=h (s.heap.objs.size+1) s.heap.objs.size (I.hok.fresh (Nat.le_succ _)) (I.hok.fresh (Je _)) (JK (Nat.lt_succ_self _));have I2:=Inv.made (C:=C) I;have r2:zB (V.ref (s.heap.objs.size+1)::(vs++dvs)) (Value.ref (s.heap.objs.size+1)::(us++ds)):= .cons rfl (r.append hd);have hl:(Value.ref (s.heap.objs.size+1)::us++ds).length=ps.length:=by
  have e:=r2.length;rw[F.len _ _ _ _ hq] at e;exact e.symm
 refine wpAny_call (zkw (f:=f) I.kIn M.makes M.init (beq_iff_eq.mp M.fn) (codeAny_mono (F.run _ X.stack _ _ ⟨Value.ref (s.heap.objs.size+1)::us, []⟩ (Value.ref (s.heap.objs.size+1)::(us++ds)) _ _ E (hr.make C us [])
  (I2.env0.make C us []) (hb _ (Value.ref (s.heap.objs.size+1)::us) I2.kIn hl) r2 hq) λr s' hq'=> ?_))
 cases r with
 |error e=>exact hx pins σ _ _ e s' I2 hq'
 |ok fl=>
  cases fl with
  |ret u=>
   obtain⟨v,H',I3,rv,ev,q3⟩:=I2.after hq';subst ev;exact⟨rv,⟨V.ref (s.heap.objs.size+1),H',I3,rfl,q3⟩⟩
  |next=>exact False.elim hq'
  |brk=>exact False.elim hq'
  |cont=>exact False.elim hq'
theorem zkC(M:Mk X.K C f)(F:FnOk X.prog X.w X.K X.mg X.base CX k f fd ps sp)(hr:Room (k+1) X.A)(hg:Gl X x)(hm:X.mg x=some (.ref C))(hb:qc X.K fd ps ds)(hd:zB dvs ds)(hx:vj CX X E)
  (hdb:(x==("__debug__":Str))=false:=by decide):PE X (.Call (.Name x p) [] [] pos) (znI C sp dvs E uz):=by
 intro pins s σ H Q I h;refine wpAny_Call_Name_kw (vG I hg hm ?_ hdb);exact PySem.W.callWith_K0 I.kIn M.kp (zkB (us:= []) M F hr hb hd hx I .nil h)
end
section
variable {X:Cx} {CX:CXT} {k:Nat} {f C:Addr} {fd:FuncData} {ps ks:List Str} {sp:Sp} {E:XK} {x m:Str} {p pos apos kpos:Pos} {e o:Expr} {es:List Expr} {kws:List Keyword} {te ta:TE} {t tk:TA} {nm:Option Str}
structure KBinds (K:Fg) (fd:FuncData) (ps ks:List Str) (g:List Value->List Value->List Value) (gV:List V->List V->List V):Prop where
 to: ∀(s:Shared) (us ws:List Value),K.In s.heap->(g us ws).length=ps.length->BindsTo s fd ⟨us,ks.zip ws⟩ (ps.zip (g us ws))
 rel: ∀{vs:List V} {us:List Value} {zs:List V} {ws:List Value},zB vs us->zB zs ws->zB (gV vs zs) (g us ws)
variable {g:List Value->List Value->List Value} {gV:List V->List V->List V}
end
structure FnScope (N P:List Str) (sc:Scope):Prop where
 kind:sc.kind= .function
 co:sc.isCoroutine=false
 gen:sc.isGenerator=false
 nd:N.Nodup
 pre:N.take P.length=P
 par: ∀x∈P,sc.names.lookup x=some .local\/sc.names.lookup x=some .cell
 nofree: ∀y∈sc.names,y.2≠ .free
theorem zfV{kindOf:Str->Option NameKind}{x:Str}: ∀{binds:List (Str×Value)} {m:Str->Option Value},(∀v,(x,v)∉binds)->bindL kindOf binds m x=m x
 | [],_,_=>rfl
 |(n,v)::r,m,h=>by
  unfold bindL;rw[zfV λw hw=>h w (Jl _ hw)];split
  ·have:x≠n:=by rintro rfl;exact h v Jq
   simp [this]
  ·rfl
theorem zfW{kindOf:Str->Option NameKind}{x:Str}: ∀{binds:List (Str×Value)} {m:Str->Option Value},(∀v,(x,v)∉binds)->bindC kindOf binds m x=m x
 | [],_,_=>rfl
 |(n,v)::r,m,h=>by
  unfold bindC;rw[zfW λw hw=>h w (Jl _ hw)];split
  ·rfl
  ·have:x≠n:=by rintro rfl;exact h v Jq
   simp [this]
theorem zfX{kindOf:Str->Option NameKind}{x:Str}{v:Value}: ∀{P:List Str} {vs:List Value} {i:Nat} {m:Str->Option Value},P.Nodup->P[i]? =some x->vs[i]? =some v->kindOf x=some .local->
  bindL kindOf (P.zip vs) m x=some v
 | [],_,_,_,_,h,_,_=>by simp at h
 |_::_, [],_,_,_,_,h,_=>by simp at h
 |p::P,w::vs,0,m,nd,h1,h2,hk=>by
  simp at h1 h2;subst h1;subst h2;show bindL kindOf ((p,w)::P.zip vs) m p=_;unfold bindL;rw[zfV λv hv=>(List.nodup_cons.mp nd).1 (List.of_mem_zip hv).1,Jg hk];simp
 |p::P,w::vs,i+1,m,nd,h1,h2,hk=>by
  show bindL kindOf ((p,w)::P.zip vs) m x=_;unfold bindL;exact zfX (i:=i) (List.nodup_cons.mp nd).2 (by simpa using h1) (by simpa using h2) hk
theorem zfY{kindOf:Str->Option NameKind}{x:Str}{v:Value}: ∀{P:List Str} {vs:List Value} {i:Nat} {m:Str->Option Value},P.Nodup->P[i]? =some x->vs[i]? =some v->kindOf x≠some .local->
  bindC kindOf (P.zip vs) m x=some v
 | [],_,_,_,_,h,_,_=>by simp at h
 |_::_, [],_,_,_,_,h,_=>by simp at h
 |p::P,w::vs,0,m,nd,h1,h2,hk=>by
  simp at h1 h2;subst h1;subst h2;show bindC kindOf ((p,w)::P.zip vs) m p=_;unfold bindC;rw[zfW λv hv=>(List.nodup_cons.mp nd).1 (List.of_mem_zip hv).1,Jf hk];simp
 |p::P,w::vs,i+1,m,nd,h1,h2,hk=>by
  show bindC kindOf ((p,w)::P.zip vs) m x=_;unfold bindC;exact zfY (i:=i) (List.nodup_cons.mp nd).2 (by simpa using h1) (by simpa using h2) hk
def start(N:List Str)(vs:List V):St:=vs.map some++List.replicate (N.length - vs.length) none
def xw(CX:CXT)(P:Program)(w:World)(K:Fg)(mg:Str->Option Value)(base:Heap)(N:List Str)(qual:Str)(scope:Scope)(f:Addr)(cd:Value)(A:Around)(outer:List Env)(s:Shared)(H:Hp)(E:XK):Cx where
 prog:=P
 w:=w
 K:=K
 mg:=mg
 base:=base
 A:=A.deeper (envOfC qual scope s.heap.objs.size f cd)
 N:=N
 s₀:=s
 H₀:=H
 env:=envOfC qual scope s.heap.objs.size f cd
 outer:=outer
 stack:=envOfC qual scope s.heap.objs.size f cd::outer
 ex:= []
 calm:=true
 fn:=λ_=>true
 pn:= []
 xe:=λe s'=>wpAny (model P w) (A.deeper (envOfC qual scope s.heap.objs.size f cd)) (leaving (envOfC qual scope s.heap.objs.size f cd) e) (λ_ s''=>CX outer H s E e s'') (λe' s''=>CX outer H s E e' s'') s'
theorem zhb{sc:Scope}(h:sc.names.lookup x=some .cell): ∃c,(cellsFrom n sc.names []).lookup x=some c:=by
 have q:=PySem.W.cellsFrom_some sc.names n [] (.inl h);exact Option.isSome_iff_exists.mp q
theorem zjN{CX:CXT}{P:Program}{w:World}{K:Fg}{mg:Str->Option Value}{base:Heap}{N ps:List Str}{qual:Str}{scope:Scope}{f:Addr}{cd:Value}{A:Around}{outer:List Env}{s s1:Shared}{H:Hp}{E:XK}{us:List Value}{vs:List V}
  (S:FnScope N ps scope) (hd:A.handled=none) (e0:Env0 P w K mg base A outer s H) (hl:vs.length=ps.length) (r:zB vs us)
  (x:InCallC s s.heap.objs.size (bindL (envOfC qual scope s.heap.objs.size f cd).kindOf (ps.zip us) λ_=>none) (cellsFrom (s.heap.objs.size+1) scope.names []) (bindC (envOfC qual scope s.heap.objs.size f cd).kindOf (ps.zip us) λ_=>none) s1):
  Inv (xw CX P w K mg base N qual scope f cd A outer s H E) [] (start N vs) H s1:=by
 have hpl:ps.length<=N.length:=by have:=congrArg List.length S.pre;rw[JB] at this;omega
 obtain⟨h1,tk,rfl,hk⟩:=x.done;have noA: ∀b:Addr,b∉(xw CX P w K mg base N qual scope f cd A outer s H E).ex:=λb z=>absurd (show b∈([]:List Addr) from z) (by simp);refine⟨⟨e0.mod,S.kind,rfl,rfl,Je _,λy z c h1 h2=> ?_,λy hy=> ?_,λy c _ h=> ?_,λ_=>hd,Around.frames_deeper e0.frames, .inr ⟨rfl,rfl⟩,λb z=>absurd z (noA b),e0.bs,e0.bsz,λb _ _=>noA b,λb z=>absurd z (noA b),e0.funs,e0.frf⟩,
  rfl,e0.bare,Un.kept hk,⟨_,x.toInCall.ns,λi y v h1 h2 h3=> ?_⟩,λy c h=>⟨_,x.cell y c h⟩,e0.hok.fresh (Je _),λy c h=> ?_,λp hp=>absurd (show p∈([]:List (Addr×Obj)) from hp) (by simp),e0.hok.kept hk,?_⟩
 ·exact name_of_addr x.apart (PySem.mem_of_lookup h1) (PySem.mem_of_lookup h2)
 ·have hy:scope.names.lookup y=some .cell\/scope.names.lookup y=some .free:=hy;rcases hy with hy|hy
  ·exact zhb hy
  ·exact absurd rfl (S.nofree _ (PySem.mem_of_lookup hy))
 ·exact Nat.le_of_lt (x.above y c (PySem.mem_of_lookup h))
 ·have hi:i<vs.length:=by
   unfold start at h2;by_cases hi:i<vs.length
   ·exact hi
   ·rw[List.getElem?_append_right (by simpa using hi)] at h2;rw[List.getElem?_replicate] at h2;split at h2<;>cases h2
  have ha:vs[i]? =some v:=by
   unfold start at h2;rw[List.getElem?_append_left (by simpa using hi),Jh] at h2;cases e:vs[i]? with
   |none=>rw[e] at h2;cases h2
   |some a=>rw[e] at h2;cases h2;rfl
  obtain⟨u,hu,rv⟩:=r.get ha;have hp:ps[i]? =some y:=by
   rw[<-S.pre,List.getElem?_take_of_lt 'o'];exact h1
  have ndP:ps.Nodup:=by rw[<-S.pre];exact S.nd.sublist (List.take_sublist _ _)
  refine⟨u,rv,?_⟩;rcases S.par y (Ji hp) with k|k
  ·exact .inl ⟨k,zfX ndP hp hu k⟩
  ·obtain⟨c,e⟩:=zhb (n:=s.heap.objs.size+1) k;refine .inr ⟨.inl k,c,e,?_⟩;have q:=x.cell y c e;rw[zfY ndP hp hu (by show scope.names.lookup y≠_;rw[k];decide)] at q;exact q
 ·exact e0.hok.fresh (Nat.le_of_lt (x.above y c (PySem.mem_of_lookup h)))
 ·unfold start;show _=N.length;rw[Jj,Ja,List.length_replicate];omega
theorem zp7{CX:CXT}{P:Program}{w:World}{K:Fg}{mg:Str->Option Value}{base:Heap}{k:Nat}{f:Addr}{name qual:Str}{params:Arguments}{body:List Stmt}{scope:Scope}{dV kV doc pm cdv ct oc:Value}{an od:Option Addr}
  {osl:Array (Option Value)} {N ps:List Str} {sp:Sp} (lk:K.lookup f=some ⟨oc,od, .func (PySem.W.fnOf name qual params body scope dV kV doc pm an cdv ct),osl⟩) (hcd:PySem.W.codeIn K cdv qual=true) (S:FnScope N ps scope)
  (len: ∀vs H Q E,sp vs H Q E->vs.length=ps.length)
  (hbody: ∀(A:Around) (outer:List Env) (s:Shared) (H:Hp) (vs:List V) (Q:VK) (E:XK),Room k (A.deeper (envOfC qual scope s.heap.objs.size f cdv))->sp vs H Q E->
   ∃t,PSs (xw CX P w K mg base N qual scope f cdv A outer s H E) body t/\t {nx:=λ_ H'=>Q .non H',rt:=Q} (start N vs) H):
  FnOk P w K mg base CX (k+1) f (PySem.W.fnOf name qual params body scope dV kV doc pm an cdv ct) ps sp:=by
 refine⟨len,λA outer s H args us vs Q E hr e0 hb r hsp=> ?_⟩;have hl:=len _ _ _ _ hsp;have KX:K.In s.heap:=e0.mod.kin.keeps λb o e=>(e0.bs b o e).1;have lim:s.heap.NoLimit:=e0.mod.nolimit.keeps λb o e=>(e0.bs b o e).1;have hkind: ∀y∈ps.zip us,scope.names.lookup y.1=some .local\/(scope.names.lookup y.1=some .cell/\((cellsFrom (s.heap.objs.size+1) scope.names []).lookup y.1).isSome=true):=λ⟨n,v⟩ hy=>by
  rcases S.par n (List.of_mem_zip hy).1 with q|q
  ·exact .inl q
  ·exact .inr ⟨q,PySem.W.cellsFrom_some _ _ _ (.inl q)⟩
 refine codeAny_call_function hr.depth (KX _ _ lk) rfl S.co S.gen rfl (PySem.W.codeRec_of KX hcd) (hb _ _ _ _ ?_);refine wpAny_newFunctionEnv_cells S.kind hkind λenv he s1 x=> ?_;subst he;refine⟨lim.keeps x.toInCall.keep,codeAny_func ?_⟩;obtain⟨t,ht,hq⟩:=hbody A outer s H vs Q E (hr.deeper _) hsp;have I:Inv (xw CX P w K mg base N qual scope f cdv A outer s H E) [] (start N vs) H s1:=zjN S hr.hd e0 hl r x;refine wpAny_mono (ht [] s1 (start N vs) H _ I hq) (λfl s' hs=> ?_) λe s' hs=>hs;have fin: ∀{σ':St} {H':Hp} {v:V} {u:Value},Inv (xw CX P w K mg base N qual scope f cdv A outer s H E) [] σ' H' s'->zw v u->Q v H'->CE outer P w H s Q u s':=
  fun {σ' H' v u} J rv q=>⟨v,H',J.os,J.bare,J.base,J.hok,rv,q⟩
 cases fl with
 |ret u=>
  obtain⟨v,σ',H',J,rv,q⟩:=hs;exact fin J rv q
 |next=>
  obtain⟨σ',H',J,q⟩:=hs;exact fin (v:=V.non) (u:=Value.none) J rfl q
 |brk=>
  obtain⟨_,_,_,q⟩:=hs;exact False.elim q
 |cont=>
  obtain⟨_,_,_,q⟩:=hs;exact False.elim q
section
variable {X:Cx} {x:Str} {p pos:Pos} {e:Expr} {es:List Expr} {t:TA} {id T:String} {r:List V->Hp->VK->Prop}
def tCB(r:List V->Hp->VK->Prop)(t:TA):TE:=λσ H Q=>t σ H λvs H1=>r vs H1 Q
theorem ye(hc:yV X (.builtin id) r)(hg:Gl X x)(hm:X.mg x=none)(hv:bootBuiltins x=some (.builtin id))(ha:PA X (e::es) t)(hn:x≠"__name__":=by decide)(hdb:(x==("__debug__":Str))=false:=by decide)
  (he:starEach (e::es) X.env=(false,eval e X.env)::starEach es X.env:=by rfl) (hpl:(backTo pos (starEach es X.env)).any (·.1)=false:=by rfl):PE X (.Call (.Name x p) (e::es) [] pos) (tCB r t):=by
 intro pins s σ H Q I h;refine wpAny_Call_Name_kw (wF I hg hm hv ?_ hn hdb);exact PyProof.Rows.callWith_builtin1 (thn (ha pos pins s σ H _ I h) λus s1 ⟨vs,H1,I1,r1,q1⟩=>hc pins s1 σ H1 vs us Q I1 r1 q1) he hpl
theorem xV(hc:yV X (.type T) r)(hg:Gl X x)(hm:X.mg x=none)(hv:bootBuiltins x=some (.type T))(ha:PA X (e::es) t)(hn:x≠"__name__":=by decide)(hdb:(x==("__debug__":Str))=false:=by decide)
  (he:starEach (e::es) X.env=(false,eval e X.env)::starEach es X.env:=by rfl) (hpl:(backTo pos (starEach es X.env)).any (·.1)=false:=by rfl):PE X (.Call (.Name x p) (e::es) [] pos) (tCB r t):=by
 intro pins s σ H Q I h;refine wpAny_Call_Name_kw (wF I hg hm hv ?_ hn hdb);exact PyProof.Rows.callWith_type1 (thn (ha pos pins s σ H _ I h) λus s1 ⟨vs,H1,I1,r1,q1⟩=>hc pins s1 σ H1 vs us Q I1 r1 q1) he hpl
end
end L2
namespace HT
open PySem PyProof.Rows
section
open PySem.SeqAt
open PySem.AutoSeq1 (wpAny_loadPart')
open PySem.MeetsSeq PySem.MeetsSeq2 PySem.MeetsSeq3
end
section
variable {prog:Program} {w:World} {A:Around} {E:Value->Shared->Prop} {s:Shared}
theorem cat_tup{t b:Addr}{vs ws:List Value}{Q:Value->Shared->Prop}(ht:IsTup s.heap t vs.toArray)(hb:IsTup s.heap b ws.toArray)(hv:vs≠ [])
  (h1:ws= []->Q (.ref t) s) (h2:ws≠ []->Q (.ref s.heap.objs.size) {s with heap:=s.heap.push {cls:= .type "tuple",data:= .seq (vs++ws).toArray} })
  (hsz:vs.length+ws.length<=sizeLine):wpAny (model prog w) A (binaryOp .Add (.ref t) (.ref b)) Q E s:=by
 obtain⟨⟨cls,dd,data,sl⟩,ho,hc,n,hd⟩:=id ht;obtain⟨⟨cls2,dd2,data2,sl2⟩,ho2,hc2,n2,hd2⟩:=id hb;simp only at hc hd hc2 hd2;subst hc hd hc2 hd2;have e:vs.toArray++ws.toArray=(vs++ws).toArray:=by simp
 by_cases hw:ws= []
 ·exact concat_meets ⟨_,ho,rfl⟩ ⟨_,ho2,rfl⟩ noFill_tuple_add seq_tuple_add PySem.F.slot_tuple_add PySem.F.entry_tuple_add (PySem.F.args_tuple_add_2 _ _)
   (tuple_addW1 t b vs.toArray ws.toArray n n2 dd dd2 sl sl2 (by simpa using hv) (by simp [hw])) ⟨ho,ho2,h1 hw⟩
 ·refine concat_meets ⟨_,ho,rfl⟩ ⟨_,ho2,rfl⟩ noFill_tuple_add seq_tuple_add PySem.F.slot_tuple_add PySem.F.entry_tuple_add (PySem.F.args_tuple_add_2 _ _)
   (tuple_addW2 t b vs.toArray ws.toArray n n2 dd dd2 sl sl2 (by simpa using hv) (by simpa using hw) (by rw[Jn,Jn];exact hsz)) ⟨ho,ho2,?_⟩
  rw[e];exact h2 hw
def sIx(n d:Nat):Option Int->Nat
 |none=>d
 |some v=>if v<0 then (v+(n:Int)).toNat else min v.toNat n
theorem zon(n d:Nat)(hd:d<=n)(o:Option Int):sIx n d o<=n:=by
 cases o with
 |none=>exact hd
 |some v=>
  show (if v<0 then (v+(n:Int)).toNat else min v.toNat n)<=n;by_cases hv:v<0
  ·rw[Jg hv];omega
  ·rw[Jf hv];exact Nat.min_le_right _ _
theorem ziY(v:Int)(n d:Nat):(if v<0 then max (v+(n:Int)) 0 else min v (n:Int))=((sIx n d (some v):Nat):Int):=by
 show (if v<0 then max (v+(n:Int)) 0 else min v (n:Int))=(((if v<0 then (v+(n:Int)).toNat else min v.toNat n):Nat):Int);by_cases hv:v<0
 ·simp only[Jg hv];omega
 ·simp only[Jf hv];omega
theorem zie(lo hi:Option Int)(n:Nat):Builtin.Slice.sliceAdjust lo hi 1 (n:Int)=(((sIx n 0 lo:Nat):Int),((sIx n n hi:Nat):Int)):=by
 have h1: ¬((1:Int)<0):=by omega
 unfold Builtin.Slice.sliceAdjust;simp only[h1,if_false];refine Prod.ext ?_ ?_
 ·cases lo with
  |none=>rfl
  |some v=>exact ziY v n 0
 ·cases hi with
  |none=>rfl
  |some v=>exact ziY v n n
theorem zif(i j:Nat):Builtin.Slice.slicePlaces (i:Int) (j:Int) 1=j - i:=by
 unfold Builtin.Slice.slicePlaces;have h1:(1:Int)>0:=by omega
 simp only[h1,if_true,Int.ediv_one];split<;>omega
theorem zeY{v:Value}{o:Option Int}{Q:Option Int->Shared->Prop}(p:IsPart v o)(h:Q o s):wpAny (model prog w) A (Builtin.Slice.slicePartIndex v) Q E s:=by
 cases p with
 |none=>exact slicePart_none h
 |int i t=>exact slicePart_int h
theorem zeh{sl:Addr}{vl vu:Value}{lo hi:Option Int}{n:Nat}{Q:Int×Int×Nat->Shared->Prop}(hs:s.heap.IsSliceOf sl vl vu .none)(pl:IsPart vl lo)(pu:IsPart vu hi)
  (h:Q (((sIx n 0 lo:Nat):Int),1,sIx n n hi - sIx n 0 lo) s):wpAny (model prog w) A (Builtin.Slice.sliceApplied (.ref sl) (pure (n:Int))) Q E s:=by
 obtain⟨os,hos,hcs,hds⟩:=id hs;unfold Builtin.Slice.sliceApplied Builtin.Slice.sliceFields;refine JW (JW (wpAny_field hos hds (x:=vl) rfl (JW (wpAny_field hos hds (x:=vu) rfl (JW (wpAny_field hos hds (x:= .none) rfl (JX ?_)))))));refine JW (slicePart_none ?_);show wpAny _ _ (if ((1:Int)==0)=true then _ else _) _ _ s;rw[Jf 'd'];refine JW (zeY pl (JW (zeY pu (JW (JX ?_)))));show wpAny _ _ (match Builtin.Slice.sliceAdjust lo hi 1 (n:Int) with|(lo,hi)=>pure (lo,(1:Int),Builtin.Slice.slicePlaces lo hi 1)) _ _ s;rw[zie lo hi n];show wpAny _ _ (pure (((sIx n 0 lo:Nat):Int),(1:Int),Builtin.Slice.slicePlaces ((sIx n 0 lo:Nat):Int) ((sIx n n hi:Nat):Int) 1)) _ _ s;rw[zif];exact JX h
theorem zkD(xs:Array Value)(i k:Nat):((List.range k).filterMap λ(m:Nat)=>xs[((i:Int)+(m:Int)*1).toNat]?).toArray=((xs.toList.drop i).take k).toArray:=by
 have e:(λ(m:Nat)=>xs[((i:Int)+(m:Int)*1).toNat]?)=λm=>xs[i+m]? :=by
  funext m
  have:((i:Int)+(m:Int)*1).toNat=i+m:=by omega
  rw[this]
 rw[e]
 have:=pick_run xs i k;rw[List.filterMap_map] at this;have e2:((λx=>xs[x]?) ∘ λx=>i+x)=λm=>xs[i+m]? :=rfl;rw[e2] at this;rw[this]
theorem getItem_tuple_cut{t sl:Addr}{items:Array Value}{vl vu:Value}{lo hi:Option Int}{Q:Value->Shared->Prop}(ht:IsTup s.heap t items)(hs:s.heap.IsSliceOf sl vl vu .none)(pl:IsPart vl lo)(pu:IsPart vu hi)
  (hw: ¬(sIx items.size 0 lo=0/\sIx items.size items.size hi=items.size))
  (h:Q (.ref s.heap.objs.size) {s with heap:=s.heap.push {cls:= .type "tuple",data:= .seq ((items.toList.drop (sIx items.size 0 lo)).take (sIx items.size items.size hi - sIx items.size 0 lo)).toArray} })
  (hsz:items.size<=sizeLine):wpAny (model prog w) A (getItem (.ref t) (.ref sl)) Q E s:=by
 have htake:sizeOk (.seq ((items.toList.drop (sIx items.size 0 lo)).take (sIx items.size items.size hi - sIx items.size 0 lo)).toArray):=by
  show ((items.toList.drop (sIx items.size 0 lo)).take (sIx items.size items.size hi - sIx items.size 0 lo)).toArray.size<=sizeLine;rw[Jn,JB,List.length_drop,Jx];omega
 have hj:sIx items.size items.size hi<=items.size:=zon _ _ (Je _) hi;obtain⟨os,hos,hcs,hds⟩:=id hs;have hTs:s.TypeIs (.ref sl) "slice":=⟨os,hos,hcs⟩
 unfold getItem;try with_reducible refine wpAny_holding ?_
 first|refine JW (JX ?_)|skip
 refine JW (wpAny_sequenceKey ht.typeIs 'd' ?_);refine JW (wpAny_callSpecial?_slot (name:=Str.ofString "__getitem__") ht.typeIs PyProof.Rows.slot_tuple_getitem
  (wpAny_call_entry PyProof.Rows.slot_tuple_getitem ht.typeIs entry_tuple_getitem ?_ (args_tuple_getitem _ _)))
 show wpAny _ _ (Builtin.Tuple.tupleItemsOf (.ref t)>>=_) _ _ s;refine JW (tupleItemsOf_ ht ?_);refine JW (wpAny_typeOf hTs ?_);rw[Jg 'd'];refine JW (zeh hs pl pu ?_);have hno: ¬((((sIx items.size 0 lo:Nat):Int)==0 && (1:Int)==1 && (sIx items.size items.size hi - sIx items.size 0 lo)==items.size)=true):=by
  intro q;rw[Bool.and_eq_true,Bool.and_eq_true] at q;have q1:((sIx items.size 0 lo:Nat):Int)=0:=eq_of_beq q.1.1;have q2:sIx items.size items.size hi - sIx items.size 0 lo=items.size:=eq_of_beq q.2;exact hw ⟨'o','o'⟩
 show wpAny _ _ (if (((sIx items.size 0 lo:Nat):Int)==0 && (1:Int)==1 && (sIx items.size items.size hi - sIx items.size 0 lo)==items.size)=true then _ else _) _ _ s;rw[Jf hno,zkD];first
  |exact JW (m:=Builtin.Tuple.tupleExact _) (wpAny_newObj_type (JX ⟨_,rfl,JX h⟩) htake)
  |exact JW (m:=Builtin.Tuple.tupleExact _) (wpAny_newObj_type (JW (JX (JX ⟨_,rfl,JX h⟩))) htake)
  |exact JW (JW (m:=Builtin.Tuple.tupleExact _) (wpAny_newObj_type (JX (JX ⟨_,rfl,JX h⟩)) htake))
  |exact JW (JW (m:=Builtin.Tuple.tupleExact _) (wpAny_newObj_type (JX ⟨_,rfl,JX h⟩) htake))
end
end HT
namespace L2
open PySem PySem.Spec PyProof.Rows
variable{α:Type}{n:Nat}{s:Shared}{x:V}{v:Value}
abbrev TO:=St->Hp->(Option Int->Hp->Prop)->Prop
def PO(X:Cx)(e:Option Expr)(t:TO):Prop:=
 ∀(pins:List (Addr×Obj)) (s:Shared) (σ:St) (H:Hp) (Q:Option Int->Hp->Prop),Inv X pins σ H s->t σ H Q->
  wpAny (model X.prog X.w) X.A (evalPart e X.env) (λu s'=> ∃o H',Inv X pins σ H' s'/\IsPart u o/\Q o H') X.xe s
def ziZ:TO:=λ_ H Q=>Q none H
def znJ(t:TE):TO:=λσ H Q=>t σ H λx H1=> ∃i,x= .int i/\Q (some i) H1
section
variable {X:Cx} {e:Expr} {te:TE} {lo hi:Option Expr} {tl th:TO} {pos p2:Pos}
theorem zi0:PO X none ziZ:=by
 intro pins s σ H Q I h;rw[evalPart_none];exact JX ⟨none,H,I, .none,h⟩
theorem zmH(h:PE X e te):PO X (some e) (znJ te):=by
 intro pins s σ H Q I hw;rw[evalPart_some];refine thn (h pins s σ H _ I hw) λu s1 ⟨x,H1,I1,r1,q1⟩=> ?_;obtain⟨i,rfl,q⟩:=q1;obtain⟨t,rfl⟩:=r1;exact⟨some i,H1,I1, .int i t,q⟩
def SlR(X:Cx)(r:V->Option Int->Option Int->Hp->VK->Prop):Prop:=
 ∀(pins:List (Addr×Obj)) (s:Shared) (σ:St) (H:Hp) (x:V) (v vl vu:Value) (lo hi:Option Int) (sl:Addr) (Q:VK),Inv X pins σ H s->zw x v->s.heap.IsSliceOf sl vl vu .none->IsPart vl lo->IsPart vu hi->r x lo hi H Q->
  ∃T id,typeLookup (.type T) "__getitem__"=pure (some (.builtin id))/\s.TypeIs v T/\wpAny (model X.prog X.w) X.A (getItem v (.ref sl)) (EP X pins σ Q) X.xe s
def tSl(r:V->Option Int->Option Int->Hp->VK->Prop)(te:TE)(tl th:TO):TE:=λσ H Q=>te σ H λx H1=>tl σ H1 λl H2=>th σ H2 λu H3=>r x l u H3 Q
theorem zhc{r:V->Option Int->Option Int->Hp->VK->Prop}(hr:SlR X r)(he:PE X e te)(hl:PO X lo tl)(hu:PO X hi th):PE X (.Subscript e (.Slice lo hi none p2) pos) (tSl r te tl th):=by
 intro pins s σ H Q I h;refine Subscript_ (thn (he pins s σ H _ I h) λv s1 ⟨x,H1,I1,r1,q1⟩=> ?_);refine wpAny_Slice (thn (hl pins s1 σ H1 _ I1 q1) λvl s2 ⟨l,H2,I2,pl,q2⟩=>thn (hu pins s2 σ H2 _ I2 q2) λvu s3 ⟨u,H3,I3,pu,q3⟩=> ?_);rw[evalPart_none];refine JX ?_;have I4:Inv X pins σ H3 {s3 with heap:=s3.heap.push {cls:= .type "slice",data:= .fields #[vl,vu, .none]} }:=I3.kept (t':=s3.toks) λb ob q=>Qa _ q;obtain⟨T,id,hT,ht,hg⟩:=hr pins {s3 with heap:=s3.heap.push {cls:= .type "slice",data:= .fields #[vl,vu, .none]} } σ H3 x v vl vu l u s3.heap.objs.size Q I4 r1 (Heap.IsSliceOf.new ..) pl pu q3;show wpAny (model X.prog X.w) X.A (subscriptTail e (.Slice lo hi none p2) v (.ref s3.heap.objs.size)) (EP X pins σ Q) X.xe {s3 with heap:=s3.heap.push {cls:= .type "slice",data:= .fields #[vl,vu, .none]} };exact tail_any (ops:= [.ref s3.heap.objs.size,v]) ht hT hg (by with_unfolding_all rfl)
def uA(xs:List V)(lo hi:Option Int):List V:=(xs.drop (HT.sIx xs.length 0 lo)).take (HT.sIx xs.length xs.length hi - HT.sIx xs.length 0 lo)
theorem zhd(xs:List V)(lo hi:Option Int):(uA xs lo hi).length<=xs.length:=by
 unfold uA;rw[JB,List.length_drop];omega
def zqP(K:Fg):V->Option Int->Option Int->Hp->VK->Prop:=λx lo hi H Q=> ∃a xs,x= .ref a/\SqT K H a xs/\
 ¬(HT.sIx xs.length 0 lo=0/\HT.sIx xs.length xs.length hi=xs.length)/\ ∀p,H p=none->Q (.ref p) (upd H p (.tup (uA xs lo hi)))
theorem zkE:SlR X (zqP X.K):=by
 intro pins s σ H x v vl vu lo hi sl Q I rx hs pl pu h;obtain⟨a,xs,rfl,hx,hw,q⟩:=h;cases rx;obtain⟨its,r,ht,hz⟩:=I.tuple hx;have hlen:its.toArray.size=xs.length:=by rw[Jn];exact r.length.symm
 refine⟨"tuple",_,PyProof.Rows.slot_tuple_getitem.lookup,ht.typeIs,?_⟩;refine HT.getItem_tuple_cut ht hs pl pu (by rw[hlen];exact hw) ?_ (by rw[hlen];exact hz);rw[hlen];refine⟨.ref s.heap.objs.size,_,I.laid (t':=s.toks) (o:= .tup (uA xs lo hi)) (λb ob q=>Qa _ q) (Je _) ?_,rfl,q _ (I.hok.fresh (Je _))⟩;exact⟨JE (zhd xs lo hi) hz,_,(r.drop (HT.sIx xs.length 0 lo)).take (HT.sIx xs.length xs.length hi - HT.sIx xs.length 0 lo),IsTup.new _ _⟩
def znK(K:Fg):R2:=λx y H Q=> ∃a b xs ys,x= .ref a/\y= .ref b/\SqT K H a xs/\SqT K H b ys/\xs≠ []/\xs.length+ys.length<=sizeLine/\
 (ys= []->Q (.ref a) H)/\(ys≠ []-> ∀p,H p=none->Q (.ref p) (upd H p (.tup (xs++ys))))
theorem zB.nil_iff{xs:List V}{us:List Value}(r:zB xs us):us= []↔xs= []:=by
 cases r with
 |nil=>simp
 |cons _ _=>simp
theorem uB:OpR X (binaryOp .Add) (znK X.K):=by
 intro pins s σ H x y v u Q I rx ry h;obtain⟨a,b,xs,ys,rfl,rfl,ha,hb,hx,hz,q1,q2⟩:=h;cases rx;cases ry;obtain⟨its,r1,p1,_⟩:=I.tuple ha;obtain⟨its2,r2,p2,_⟩:=I.tuple hb;refine HT.cat_tup p1 p2 (λz=>hx (r1.nil_iff.mp z)) (λz=>⟨.ref a,H,I,rfl,q1 (r2.nil_iff.mp z)⟩) (λz=> ?_) (by rw[<-r1.length,<-r2.length];exact hz);refine⟨.ref s.heap.objs.size,_,I.laid (t':=s.toks) (o:= .tup (xs++ys)) (λb ob q=>Qa _ q) (Je _) ?_,rfl,q2 (λw=>z (r2.nil_iff.mpr w)) _ (I.hok.fresh (Je _))⟩;exact⟨by rw[Jj];exact hz,_,r1.append r2,IsTup.new _ _⟩
end
def ixN(n:Nat)(i:Int):Option Nat:=if 0<=i then (if i<n then some i.toNat else none) else if -(n:Int)<=i then some (i+n).toNat else none
def atI(xs:List α)(i:Int):Option α:=(ixN xs.length i).bind λj=>xs[j]?
theorem zmJ{i:Int}{j:Nat}(h:ixN n i=some j):seqIndex? i n=some j/\j<n/\ -(n:Int)<=i/\i<n:=by
 unfold ixN at h;by_cases h0:0<=i
 ·rw[Jg h0] at h;by_cases h1:i<n
  ·rw[Jg h1] at h;have e:i.toNat=j:=JV h;exact⟨by rw[seqIndex_of h0 h1,e],'o','o',h1⟩
  ·rw[Jf h1] at h;cases h
 ·rw[Jf h0] at h;by_cases h1: -(n:Int)<=i
  ·rw[Jg h1] at h;have e:(i+n).toNat=j:=JV h;exact⟨by rw[seqIndex_neg 'o' h1,e],'o',h1,'o'⟩
  ·rw[Jf h1] at h;cases h
theorem jQ{xs:List α}{i:Int}{v:α}(h:atI xs i=some v): ∃j,seqIndex? i xs.length=some j/\xs[j]? =some v/\j<xs.length/\ -(xs.length:Int)<=i/\i<xs.length:=by
 unfold atI at h;cases e:ixN xs.length i with
 |none=>rw[e] at h;cases h
 |some j=>
  rw[e] at h;obtain⟨h1,h2,h3,h4⟩:=zmJ e;exact⟨j,h1,h,h2,h3,h4⟩
theorem xf{xs:List α}{j:Nat}{v:α}(h:xs[j]? =some v):atI xs (j:Int)=some v:=by
 have hj:j<xs.length:=(Jc.mp h).1;have e:ixN xs.length (j:Int)=some j:=by
  unfold ixN;rw[Jg 'o',Jg 'o'];simp
 unfold atI;rw[e];exact h
def zi1(b:Expr):Prop:= ∀o i,subscripted b false o i=operate [o,i] (getItem o i)
def IxR(X:Cx)(r:R2):Prop:=
 ∀(value slice:Expr) (pins:List (Addr×Obj)) (s:Shared) (σ:St) (H:Hp) (x y:V) (v u:Value) (Q:VK),Inv X pins σ H s->zw x v->zw y u->r x y H Q->
  subscripted slice false v u=operate [v,u] (getItem v u)->wpAny (model X.prog X.w) X.A (subscriptTail value slice v u) (EP X pins σ Q) X.xe s
def MtR(X:Cx)(id:String)(r:V->List V->Hp->VK->Prop):Prop:=
 ∀(pins:List (Addr×Obj)) (s:Shared) (σ:St) (H:Hp) (x:V) (xs:List V) (v:Value) (us:List Value) (Q:VK),Inv X pins σ H s->zw x v->zB xs us->r x xs H Q->
  wpAny (model X.prog X.w) X.A (call (.builtin id) (v::us)) (EP X pins σ Q) X.xe s
section
variable {X:Cx} {a b:Expr} {ta tb:TE} {pos:Pos}
theorem zp8{r:R2}(hr:IxR X r)(ha:PE X a ta)(hb:PE X b tb)(hs:zi1 b):PE X (.Subscript a b pos) (tOp r ta tb):=by
 intro pins s σ H Q I h;exact Subscript_ (jJ ha hb I h λv u s2 x y H2 I2 rx ry q=>hr a b pins s2 σ H2 x y v u Q I2 rx ry q (hs _ _))
def vL(K:Fg):R2:=λx y H Q=> ∃p xs i v,x= .ref p/\y= .int i/\SqL K H p xs/\atI xs i=some v/\Q v H
def vm(K:Fg):R2:=λx y H Q=> ∃p xs i v,x= .ref p/\y= .int i/\SqT K H p xs/\atI xs i=some v/\Q v H
def zqQ:R2:=λx y H Q=> ∃z i c,x= .str z/\y= .int i/\z.length<=sizeLine/\atI z.cps.toList i=some c/\Q (.str ⟨#[c]⟩) H
theorem yj:IxR X (vL X.K):=by
 intro value slice pins s σ H x y v u Q I rx ry h hs;obtain⟨p,xs,i,z,rfl,rfl,hq,he,q⟩:=h;cases rx;obtain⟨t,rfl⟩:=ry;obtain⟨its,r,pl,hz⟩:=I.list hq;obtain⟨j,h1,h2,h3,h4,h5⟩:=jQ he;obtain⟨w,ew,rw'⟩:=r.get h2;have hl:=r.length;have hn:=uv;have fin:EP X pins σ Q w s:=⟨z,H,I,rw',q⟩
 by_cases h0:0<=i
 ·have hj:i.toNat=j:=by
   rw[seqIndex_of h0 h5] at h1;exact JV h1
  exact item_listR pl.isList h0 'o' (by rw[hj];simpa using ew) fin hs
 ·have hj:(i+(its.toArray.size:Int)).toNat=j:=by
   rw[seqIndex_neg 'o' h4] at h1;rw[Jn,<-hl];exact JV h1
  exact subscriptTail_builtinR (x:=w) pl.isList.typeIs slot_list_getitem.lookup
   (wpAny_getItem_list_neg (Q:=λr s'=>r=w/\EP X pins σ Q r s') pl.isList 'o' (by rw[Jn]<;>omega) 'o' (by rw[hj];simpa using ew) ⟨rfl,fin⟩) hs
theorem zQ:IxR X (vm X.K):=by
 intro value slice pins s σ H x y v u Q I rx ry h hs;obtain⟨p,xs,i,z,rfl,rfl,hq,he,q⟩:=h;cases rx;obtain⟨t,rfl⟩:=ry;obtain⟨its,r,pl,hz⟩:=I.tuple hq;obtain⟨j,h1,h2,h3,h4,h5⟩:=jQ he;obtain⟨w,ew,rw'⟩:=r.get h2;have hl:=r.length;have hn:=uv;have fin:EP X pins σ Q w s:=⟨z,H,I,rw',q⟩
 exact subscriptTail_builtinR (x:=w) pl.typeIs slot_tuple_getitem.lookup
  (getItem_tuple (j:=j) (Q:=λr s'=>r=w/\EP X pins σ Q r s') pl 'o' 'o' (by rw[Jn,<-hl];exact h1) (by simpa using ew) ⟨rfl,fin⟩) hs
theorem zoo:IxR X zqQ:=by
 intro value slice pins s σ H x y v u Q I rx ry h hs;obtain⟨z,i,c,rfl,rfl,hz,he,q⟩:=h;obtain⟨t,rfl⟩:=rx;obtain⟨t',rfl⟩:=ry;obtain⟨j,h1,h2,h3,h4,h5⟩:=jQ he;have hl:z.cps.toList.length=z.length:=by simp [Str.length]
 rw[hl] at h1 h4 h5;have hn:=uv;exact tail_any (typeIs_str s z t) slot_str_getitem.lookup (getItem_str (c:=c) (by
  have e1:decide (i< -(2 ^ 63:Int))=false:=JP 'o';have e2:decide (i≥2 ^ 63)=false:=JP 'o';rw[e1,e2,Bool.or_false]) (by rw[h1];simpa using h2) ⟨.str ⟨#[c]⟩,H,I.tok _,⟨_,rfl⟩,q⟩) hs
def xx:V->Bool
 | .non=>true
 | .bl _=>true
 | .int _=>true
 | .str _=>true
 |_=>false
def eqV:V->V->Bool
 | .non, .non=>true
 | .bl a, .bl b=>a==b
 | .bl a, .int b=>(if a then 1 else 0)==b
 | .int a, .bl b=>a==(if b then 1 else 0)
 | .int a, .int b=>a==b
 | .str a, .str b=>a==b
 |_,_=>false
theorem jR{A:Around}{y:V}{u:Value}(ry:zw y u)(rx:zw x v)(fy:xx y=true)(fx:xx x=true):SeqAt.EqAt A s u v (eqV y x):=by
 cases y with
 |non=>
  cases ry;cases x with
  |non=>cases rx;exact SeqAt.EqAt.same _
  |bl b=>cases rx;exact SeqAt.EqAt.none_bool b
  |int b=>obtain⟨t,rfl⟩:=rx;exact SeqAt.EqAt.none_int b t
  |str b=>obtain⟨t,rfl⟩:=rx;exact SeqAt.EqAt.none_str b t
  |_=>exact absurd (show false=true from fx) Ju
 |bl a=>
  cases ry;cases x with
  |non=>cases rx;exact SeqAt.EqAt.bool_none a
  |bl b=>cases rx;exact SeqAt.EqAt.bool_bool a b
  |int b=>obtain⟨t,rfl⟩:=rx;exact SeqAt.EqAt.bool_int a b t
  |str b=>obtain⟨t,rfl⟩:=rx;exact SeqAt.EqAt.bool_str a b t
  |_=>exact absurd (show false=true from fx) Ju
 |int a=>
  obtain⟨t',rfl⟩:=ry;cases x with
  |non=>cases rx;exact SeqAt.EqAt.int_none a t'
  |bl b=>cases rx;exact SeqAt.EqAt.int_bool a t' b
  |int b=>obtain⟨t,rfl⟩:=rx;exact SeqAt.EqAt.int_int a t' b t
  |str b=>obtain⟨t,rfl⟩:=rx;exact SeqAt.EqAt.int_str a t' b t
  |_=>exact absurd (show false=true from fx) Ju
 |str a=>
  obtain⟨t',rfl⟩:=ry;cases x with
  |non=>cases rx;exact SeqAt.EqAt.str_none a t'
  |bl b=>cases rx;exact SeqAt.EqAt.str_bool a t' b
  |int b=>obtain⟨t,rfl⟩:=rx;exact SeqAt.EqAt.str_int a t' b t
  |str b=>obtain⟨t,rfl⟩:=rx;exact SeqAt.EqAt.str_str a t' b t
  |_=>exact absurd (show false=true from fx) Ju
 |_=>exact absurd (show false=true from fy) Ju
def eqU(x:V)(u:Value):Bool:=match u with
 | .none=>eqV .non x
 | .bool b=>eqV (.bl b) x
 | .int i _=>eqV (.int i) x
 | .str z _=>eqV (.str z) x
 |_=>false
theorem zkG{y:V}{u:Value}(r:zw y u)(f:xx y=true):eqU x u=eqV y x:=by
 cases y with
 |non=>cases r;rfl
 |bl b=>cases r;rfl
 |int i=>obtain⟨t,rfl⟩:=r;rfl
 |str z=>obtain⟨t,rfl⟩:=r;rfl
 |_=>exact absurd (show false=true from f) Ju
theorem jS{x:V}: ∀{xs:List V} {us:List Value},zB xs us->xs.all xx=true->us.any (eqU x)=xs.any λy=>eqV y x
 |_,_, .nil,_=>rfl
 |y::xs,u::us, .cons r t,f=>by
  rw[List.all_cons,Bool.and_eq_true] at f;rw[List.any_cons,List.any_cons,zkG r f.1,jS t f.2]
theorem jT{A:Around}{s:Shared}{x:V}{v:Value}(rx:zw x v)(fx:xx x=true): ∀{xs:List V} {us:List Value},zB xs us->xs.all xx=true-> ∀u∈us,SeqAt.EqAt A s u v (eqU x u)
 |_,_, .nil,_=>λu hu=>by cases hu
 |y::xs,u::us, .cons r t,f=>λu' hu=>by
  rw[List.all_cons,Bool.and_eq_true] at f;rcases JD.mp hu with rfl|hu
  ·rw[zkG r f.1];exact jR r rx f.1 fx
  ·exact jT rx fx t f.2 u' hu
def inV(x:V)(xs:List V):Bool:=xs.any λy=>eqV y x
def rIn(K:Fg)(neg:Bool):R2:=λx y H Q=> ∃p xs,y= .ref p/\(SqL K H p xs\/SqT K H p xs)/\xx x=true/\xs.all xx=true/\Q (.bl (if neg then !inV x xs else inV x xs)) H
theorem zfZ:OpR X (compareOp .In) (rIn X.K false):=by
 intro pins s σ H x y v u Q I rx ry h;obtain⟨p,xs,rfl,hq,fx,fs,q⟩:=h;cases ry;rcases hq with hq|hq
 ·obtain⟨its,r,pl,hz⟩:=I.list hq;refine SeqAt.in_listAt (eqU x) pl.isList (λw hw=>jT rx fx r fs w (by simpa using hw)) ⟨.bl _,H,I,rfl,?_⟩;rw[show its.toArray.any (eqU x)=its.any (eqU x) by simp,jS r fs];exact q
 ·obtain⟨its,r,pl,hz⟩:=I.tuple hq;refine SeqAt.in_tupleAt (eqU x) pl (λw hw=>jT rx fx r fs w (by simpa using hw)) ⟨.bl _,H,I,rfl,?_⟩;rw[show its.toArray.any (eqU x)=its.any (eqU x) by simp,jS r fs];exact q
theorem xW:yV X (.builtin "len") (λxs H Q=> ∃p ys,xs= [.ref p]/\(SqL X.K H p ys\/SqT X.K H p ys)/\Q (.int ys.length) H):=by
 intro pins s σ H xs us Q I r h;obtain⟨p,ys,rfl,hq,q⟩:=h;obtain⟨u,rfl,rx⟩:=xc r;cases rx;have hn:=uv;rcases hq with hq|hq
 ·obtain⟨its,r',pl,hz⟩:=I.list hq;have hlen:=r'.length;exact Calls.call_len_list pl.isList (by simp only[Jn]<;>omega) ⟨.int ys.length,H,I.tok _,⟨s.toks+1,by rw[Jn,hlen]⟩,q⟩
 ·obtain⟨its,r',pl,hz⟩:=I.tuple hq;have hlen:=r'.length;exact len_tuple pl (by simp only[Jn]<;>omega) ⟨.int ys.length,H,I.tok _,⟨s.toks+1,by rw[Jn,hlen]⟩,q⟩
theorem zgG:yV X (.type "list") (λxs H Q=> ∃p ys,xs= [.ref p]/\(SqL X.K H p ys\/SqT X.K H p ys)/\ ∀l,H l=none->Q (.ref l) (upd H l (.lst ys))):=by
 intro pins s σ H xs us Q I r h;obtain⟨p,ys,rfl,hq,q⟩:=h;obtain⟨u,rfl,rx⟩:=xc r;cases rx;have fin: ∀(its:List Value),zB ys its->ys.length<=sizeLine-> ∀(h':Heap) (c':Nat),(∀b o',s.heap.get? b=some o'->h'.get? b=some o')->
   h'.get? s.heap.objs.size=some {cls:= .type "list",dict:=none,data:= .seq its.toArray c',slots:= #[]}->EP X pins σ Q (.ref s.heap.objs.size) {s with heap:=h'}:=λits r' hz h' c' kp e=>
  ⟨.ref s.heap.objs.size,_,I.laid (t':=s.toks) kp (Je _) (show z6 X.prog X.w _ h' _ (.lst ys) from⟨hz,its,c',r',e⟩),rfl,q _ (I.hok.fresh (Je _))⟩
 rcases hq with hq|hq
 ·obtain⟨its,r',pl,hz⟩:=I.list hq;have hlen:=r'.length;obtain⟨o,ho,hc,n,hd⟩:=pl.isList;exact call_list_seq p (.inl rfl) ho hc hd (λh' c' kp e=>fin its r' hz h' c' kp e) (by simp only[Jn]<;>omega)
 ·obtain⟨its,r',pl,hz⟩:=I.tuple hq;have hlen:=r'.length;obtain⟨o,ho,hc,n,hd⟩:=pl;exact call_list_seq p (.inr rfl) ho hc hd (λh' c' kp e=>fin its r' hz h' c' kp e) (by simp only[Jn]<;>omega)
def tyV(K:Fg)(T:String)(x:V)(H:Hp):Prop:=match x with
 | .str _=>T="str"
 | .int _=>T="int"
 | .ref p=>(T="list"/\ ∃xs,SqL K H p xs)\/(T="tuple"/\ ∃o,K.lookup p=some o/\o.cls= .type "tuple"/\o.dict=none)\/
   (T="dict"/\((∃kvs,H p=some (.dK kvs))\/ ∃kvs,H p=some (.dT kvs)))\/(T="set"/\ ∃S n,H p=some (.set S n))
 |_=>False
theorem zkH{pins:List (Addr×Obj)}{σ:St}{H:Hp}{T:String}(I:Inv X pins σ H s)(r:zw x v)(ty:tyV X.K T x H):
  s.TypeIs v T/\ ∀a,v= .ref a-> ∃ob,s.heap.get? a=some ob/\ob.dict=none:=by
 cases x with
 |str z=>
  obtain⟨t,rfl⟩:=r;cases (show T="str" from ty);exact⟨typeIs_str s z t,λ_ e=>nomatch e⟩
 |int i=>
  obtain⟨t,rfl⟩:=r;cases (show T="int" from ty);exact⟨typeIs_int s i t,λ_ e=>nomatch e⟩
 |ref p=>
  cases r;rcases ty with⟨rfl,xs,hq⟩|⟨rfl,o,hk,hc,hd⟩|⟨rfl,hk⟩|⟨rfl,S,n,hk⟩
  ·obtain⟨its,_,pl,_⟩:=I.list hq;refine⟨pl.isList.typeIs,λa e=> ?_⟩;cases e;obtain⟨o,n,e,c,hd,_⟩:=pl;exact⟨o,e,hd⟩
  ·refine⟨⟨o,I.kIn p o hk,hc⟩,λa e=> ?_⟩;cases e;exact⟨o,I.kIn _ o hk,hd⟩
  ·have z: ∃o,s.heap.get? p=some o/\o.ExactDict:=by
    rcases hk with⟨kvs,hk⟩|⟨kvs,hk⟩
    ·obtain⟨_,_,_,_,o,_,_,e,ex,_⟩:=I.hok p _ hk;exact⟨o,e,ex⟩
    ·obtain⟨_,_,_,_,o,_,_,e,ex,_⟩:=I.hok p _ hk;exact⟨o,e,ex⟩
   obtain⟨o,e,ex⟩:=z;refine⟨⟨o,e,ex.1⟩,λa e2=> ?_⟩;cases e2;exact⟨o,e,ex.2.1⟩
  ·obtain⟨o,_,_,_,e,ex,_⟩:=I.hok p _ hk;refine⟨⟨o,e,ex.1⟩,λa e2=> ?_⟩;cases e2;exact⟨o,e,ex.2.1⟩
 |_=>exact False.elim ty
def zp9(K:Fg)(T:String)(r:V->List V->Hp->VK->Prop)(to:TE):TE:=λσ H Q=>to σ H λx H1=>tyV K T x H1/\r x [] H1 Q
def tBM(K:Fg)(T:String)(r:V->List V->Hp->VK->Prop)(to:TE)(t:TA):TE:=λσ H Q=>to σ H λx H1=>tyV K T x H1/\t σ H1 λxs H2=>r x xs H2 Q
variable {o e:Expr} {es:List Expr} {to:TE} {t:TA} {name:Str} {apos cpos:Pos} {T id:String} {r:V->List V->Hp->VK->Prop}
theorem zop(pa:PlainAttrs T)(slot:Slot T name id)(hty:typeOf (.builtin id)=pure (.type "method_descriptor"))(hm:MtR X id r)(ho:PE X o to)
  (hbase:attributeBase o name X.env (eval o X.env)=eval o X.env:=by rfl) (hline:(apos.endLine==cpos.line)=true:=by rfl):PE X (.Call (.Attribute o name apos) [] [] cpos) (zp9 X.K T r to):=by
 intro pins s σ H Q I h;refine wpAny_Call_method0_late hbase hline (thn (ho pins s σ H _ I h) λv s1 ⟨x,H1,I1,r1,ty,q1⟩=> ?_);obtain⟨h1,h2⟩:=zkH I1 r1 ty;exact⟨T,id,pa,slot,hty,h1,h2,Calls.callWith_builtin rfl (PySem.evalArgs_none (hm pins s1 σ H1 x [] v [] Q I1 r1 .nil q1))⟩
theorem qd(pa:PlainAttrs T)(slot:Slot T name id)(hty:typeOf (.builtin id)=pure (.type "method_descriptor"))(hm:MtR X id r)(ho:PE X o to)(ha:PA X (e::es) t)
  (hbase:attributeBase o name X.env (eval o X.env)=eval o X.env:=by rfl)
  (hfew:((backTo cpos (starEach (e::es) X.env)).all (λx=> !x.1) && (backToKw cpos (keywordEach [] X.env)).all (λx=>x.1.isSome)
   && decide ((e::es).length+([]:List Keyword).length+(if ([]:List Keyword).isEmpty then 0 else 1)<30))=true:=by rfl)
  (hline:(apos.endLine==cpos.line)=true:=by rfl) (hs:starEach (e::es) X.env=(false,eval e X.env)::starEach es X.env:=by rfl) (hplain:(backTo cpos (starEach es X.env)).any (·.1)=false:=by rfl):
  PE X (.Call (.Attribute o name apos) (e::es) [] cpos) (tBM X.K T r to t):=by
 intro pins s σ H Q I h;refine wpAny_Call_method_late hbase hfew hline rfl (thn (ho pins s σ H _ I h) λv s1 ⟨x,H1,I1,r1,ty,q1⟩=> ?_);obtain⟨h1,h2⟩:=zkH I1 r1 ty;refine⟨T,id,pa,slot,hty,h1,h2,?_⟩;have hA:=ha cpos pins s1 σ H1 _ I1 q1;rw[hs] at hA ⊢;refine Calls.callWith_builtin (by show (false||(backTo cpos (starEach es X.env)).any (·.1))=false;rw[hplain]<;>rfl) (Calls.evalArgs_plain ?_);exact thn hA λus s2 ⟨vs,H2,I2,r2,q2⟩=>hm pins s2 σ H2 x vs v us Q I2 r1 r2 q2
end
def MtM(X:Cx)(id:String)(r:V->List V->Hp->VK->Prop):Prop:=
 ∀(pins:List (Addr×Obj)) (s:Shared) (σ:St) (H:Hp) (x:V) (xs:List V) (v:Value) (us:List Value) (Q:VK),Inv X pins σ H s->zw x v->zB xs us->r x xs H Q->
  wpAny (model X.prog X.w) X.A (call (.builtin id) (v::us)) (EP X pins σ Q) X.xe s
theorem zB.one: ∀{x:V} {us:List Value},zB [x] us-> ∃u,us= [u]/\zw x u
 |_,_, .cons r .nil=>⟨_,rfl,r⟩
theorem zB.zero: ∀{us:List Value},zB [] us->us= []
 |_, .nil=>rfl
theorem zB.eraseIdx: ∀{xs:List V} {us:List Value} (i:Nat),zB xs us->zB (xs.eraseIdx i) (us.eraseIdx i)
 |_,_,_, .nil=> .nil
 |_,_,0, .cons _ t=>t
 |_,_,i+1, .cons r t=> .cons r (zB.eraseIdx i t)
theorem zB.reverse{xs:List V}{us:List Value}(h:zB xs us):zB xs.reverse us.reverse:=by
 induction h with
 |nil=>exact .nil
 |cons r t ih=>rw[List.reverse_cons,List.reverse_cons];exact zB.append ih (.cons r .nil)
theorem zf0{α:Type}: ∀(l:List α) (i:Nat),(l.eraseIdx i).length<=l.length
 | [],_=>Je _
 |_::_,0=>Nat.le_succ _
 |_::r,i+1=>Nat.succ_le_succ (zf0 r i)
section
variable {X:Cx} {pins:List (Addr×Obj)} {σ:St} {H:Hp} {s:Shared} {l b:Addr} {xs ys zs:List V}
theorem Inv.lset{its its':List Value}{n:Nat}{f:Array Value->Array Value}{t':Nat}(I:Inv X pins σ H s)(hH:H l=some (.lst xs))
  (e:s.heap.get? l=some {cls:= .type "list",data:= .seq its.toArray n}) (hf:f its.toArray=its'.toArray) (hv:zB ys its') (hz:ys.length<=sizeLine):
  Inv X pins σ (upd H l (.lst ys)) {s with heap:=s.heap.update l (Obj.mapSeq f),toks:=t'}:=by
 have q:=PySem.IsL.update e f;rw[hf] at q;refine I.write (x:=l) (e:=l) (by rw[hH];exact trivial) (.inl rfl) (λb' u hb hu=>(Qd s.heap (Obj.mapSeq f) (Ne.symm hb)).trans hu) ⟨_,q⟩ ?_;exact⟨hz,its',_,hv,q⟩
theorem Inv.lnew{its:List Value}{t':Nat}(I:Inv X pins σ H s)(hv:zB ys its)(hz:ys.length<=sizeLine):
  Inv X pins σ (upd H s.heap.objs.size (.lst ys)) {s with heap:=s.heap.push {cls:= .type "list",data:= .seq its.toArray},toks:=t'}:=
 I.laid (λ_ _ q=>Qa _ q) (Je _) ⟨hz,its,0,hv,Qc _ rfl⟩
theorem Inv.fresh(I:Inv X pins σ H s):H s.heap.objs.size=none:=I.hok.fresh (Je _)
theorem Inv.lstM(I:Inv X pins σ H s)(hH:H l=some (.lst xs)):xs.length<=sizeLine/\ ∃(its:List Value) (n:Nat),zB xs its/\xs.length=its.length/\s.heap.get? l=some {cls:= .type "list",data:= .seq its.toArray n}:=by
 obtain⟨z,its,n,r,e⟩:=I.hok l _ hH;exact⟨z,its,n,r,r.length,e⟩
theorem zkI(h:n<=sizeLine):Builtin.List.listTooLong n=false:=by
 unfold Builtin.List.listTooLong;exact JP 'o'
end
section
variable {X:Cx}
def zi2:V->List V->Hp->VK->Prop:=λx vs H Q=> ∃l xs y,x= .ref l/\vs= [y]/\H l=some (.lst xs)/\xs.length<sizeLine/\Q .non (upd H l (.lst (xs++ [y])))
theorem qq:MtM X "list.append" zi2:=by
 intro pins s σ H x vs v us Q I rx rv h;obtain⟨l,xs,y,rfl,rfl,hH,hz,q⟩:=h;cases rx;obtain⟨u,rfl,ru⟩:=rv.one;obtain⟨z,its,n,r,hl,e⟩:=I.lstM hH;refine call_meets F.slot_list_append ⟨_,e,rfl⟩ F.entry_list_append (F.args_list_append_2 _ _) (PySem.list_append l its.toArray n u (by rw[Jn];omega)) ⟨e,?_⟩;refine⟨.non,_,I.lset (its':=its++ [u]) hH e (by simp) (r.append (.cons ru .nil)) ?_,rfl,q⟩;rw[Jj,List.length_singleton];omega
def zi3:V->List V->Hp->VK->Prop:=λx vs H Q=> ∃l b xs zs,x= .ref l/\vs= [.ref b]/\H l=some (.lst xs)/\H b=some (.lst zs)/\xs.length+zs.length<=sizeLine/\Q .non (upd H l (.lst (xs++zs)))
theorem jU:MtM X "list.extend" zi3:=by
 intro pins s σ H x vs v us Q I rx rv h;obtain⟨l,b,xs,zs,rfl,rfl,hH,hB,hz,q⟩:=h;cases rx;obtain⟨u,rfl,ru⟩:=rv.one;cases ru;obtain⟨z,its,n,r,hl,e⟩:=I.lstM hH;obtain⟨z2,its2,n2,r2,hl2,e2⟩:=I.lstM hB;have hsz:its.toArray.size+its2.toArray.size<=sizeLine:=by rw[Jn,Jn];omega
 have hlong: ¬(!its.toArray.isEmpty && Builtin.List.listTooLong (its.toArray.size+its2.toArray.size))=true:=by
  rw[zkI hsz,Bool.and_false];exact Ju
 refine call_meets F.slot_list_extend ⟨_,e,rfl⟩ F.entry_list_extend (F.args_list_extend_2 _ _)
  (AutoSeq1.list_extend_list_list_0 l its.toArray n b its2.toArray n2 hlong (by rw[Jn];omega) 'o') ⟨e,e2,?_⟩
 refine⟨.non,_,I.lset (its':=its++its2) hH e (by simp) (r.append r2) ?_,rfl,q⟩;rw[Jj];omega
def zoq:V->List V->Hp->VK->Prop:=λx vs H Q=> ∃l xs i k y,x= .ref l/\vs= [.int i]/\H l=some (.lst xs)/\ -(2 ^ 63)<=i/\i<2 ^ 63/\seqIndex? i xs.length=some k/\xs[k]? =some y/\Q y (upd H l (.lst (xs.eraseIdx k)))
theorem zkJ:MtM X "list.pop" zoq:=by
 intro pins s σ H x vs v us Q I rx rv h;obtain⟨l,xs,i,k,y,rfl,rfl,hH,h1,h2,hk,hy,q⟩:=h;cases rx;obtain⟨u,rfl,ru⟩:=rv.one;obtain⟨t,rfl⟩:=ru;obtain⟨z,its,n,r,hl,e⟩:=I.lstM hH;obtain⟨w,hw,rw'⟩:=r.get hy;refine call_meets F.slot_list_pop ⟨_,e,rfl⟩ F.entry_list_pop (F.args_list_pop_2 _ _)
  (MeetsSeq.list_pop_at l its.toArray n i t k w (fitsIndex_both h1 h2) (by rw[Jn,<-hl];exact hk) (by rw[<-JG];exact hw) (by rw[Jn];omega)) ⟨e,?_⟩
 refine⟨y,_,I.lset (its':=its.eraseIdx k) hH e ?_ (r.eraseIdx k) ?_,rw',q⟩
 ·show its.toArray.eraseIdxIfInBounds k=(its.eraseIdx k).toArray;rw[List.eraseIdxIfInBounds_toArray]
 ·have:=zf0 xs k;omega
def zor:V->List V->Hp->VK->Prop:=λx vs H Q=> ∃l xs,x= .ref l/\vs= []/\H l=some (.lst xs)/\Q .non (upd H l (.lst []))
theorem zkK:MtM X "list.clear" zor:=by
 intro pins s σ H x vs v us Q I rx rv h;obtain⟨l,xs,rfl,rfl,hH,q⟩:=h;cases rx;have hus:=rv.zero;subst hus;obtain⟨z,its,n,r,hl,e⟩:=I.lstM hH;refine call_meets F.slot_list_clear ⟨_,e,rfl⟩ F.entry_list_clear (F.args_list_clear_1 _) (AutoSeq1.list_clear_list_0 l its.toArray n (by rw[Jn];omega)) ⟨e,?_⟩;exact⟨.non,_,I.lset (its':= []) (ys:= []) hH e rfl .nil (Jv _),rfl,q⟩
def zqR:R2:=λx y H Q=> ∃l b xs zs,x= .ref l/\y= .ref b/\H l=some (.lst xs)/\H b=some (.lst zs)/\xs.length+zs.length<=sizeLine/\ ∀p,H p=none->Q (.ref p) (upd H p (.lst (xs++zs)))
theorem zos:OpR X (binaryOp .Add) zqR:=by
 intro pins s σ H x y v u Q I rx ry h;obtain⟨l,b,xs,zs,rfl,rfl,hH,hB,hz,q⟩:=h;cases rx;cases ry;obtain⟨z,its,n,r,hl,e⟩:=I.lstM hH;obtain⟨z2,its2,n2,r2,hl2,e2⟩:=I.lstM hB;refine PySem.P.add_list e e2 ?_ (by rw[Jn,Jn];omega);have ea:its.toArray++its2.toArray=(its++its2).toArray:=by simp
 rw[ea];exact⟨.ref _,_,I.lnew (t':=s.toks) (r.append r2) (by rw[Jj];omega),rfl,q _ I.fresh⟩
end
section
variable {prog:Program} {w:World} {A:Around} {E:Value->Shared->Prop} {s:Shared}
end
section
variable {X:Cx}
end
end L2
namespace Att
open PySem PySem.W PySem.Calls PyProof.Rows
theorem zeF{P:Params}{h:Heap}: ∀(ns:List Int) (vs:List Value),WellAll P h vs (ns.map WData.int)->IntsAre vs ns:=by
 intro ns;induction ns with
 |nil=>
  intro vs w;rw[JR] at w;cases w;exact .nil
 |cons n ns ih=>
  intro vs w;rw[JA] at w;cases w with
  |cons a b=>
   cases a;exact .cons _ _ (ih _ b)
theorem zjP{l:OpenLaw}{n:Nat}(hn:l.most=some n){P:Params}{h:Heap}{args:List WData}{vals:List Value}
  (hpre:l.row.toRowW.claim.pre args=true) (hwl:WellAll P h vals args):
  ∃a vs ns,vals= [Value.ref a]/\args= [WData.list (ns.map WData.int)]/\h.get? a=some {cls:= .type "list",data:= .seq vs.toArray}/\IntsAre vs ns/\ns.length<=n:=by
 have hsh:WShape.hasAll [] args [.list .int]=true:=(pre_splitW hpre).1;have hc:l.pre.holds [] {args:=args}=true:=(pre_splitW hpre).2;obtain⟨d,r,rfl,h1,h2⟩:=hasAllW_cons hsh;obtain rfl:=hasAllW_nil h2;obtain⟨xs,rfl,h3⟩:=hasW_list h1;obtain⟨ns,rfl⟩:=items_int h3;have hlen:ns.length<=n:=by
  unfold OpenLaw.pre at hc;have h4:(WTm.not (.lt (.lit (.int (n:Int))) (.len (.arg 0)))).holds [] {args:= [.list (ns.map .int)]}=true:=by
   have h4:=(holds_andW hc).1;rw[hn] at h4;exact h4
  have h5:=condW_of h4 (w_not (w_lt w_lit (w_len_list (w_arg rfl))));rw[Ja] at h5;refine Nat.le_of_not_lt λq=> ?_;have q':(n:Int)<((ns.length:Nat):Int):=by omega
  first
   |(rw[JO q'] at h5;exact absurd h5 'd')
   |(simp at h5;omega)
 cases hwl with
 |cons w1 w2=>
  cases w2;cases w1 with
  |list ho hall=>exact⟨_,_,ns,rfl,rfl,ho,zeF ns _ hall,hlen⟩
theorem zjQ(l:OpenLaw)(args:List WData):l.row.toRowW.claim.post args (.bool true) args=true:=
 postW_of (r:=l.row.toRowW) (X:=(true==true))
  (show WShape.has [] (.bool true) .bool=true by first|rfl|decide|simp [WShape.has,WShape.arms,WShape.armsAll])
  (show (WTm.eq .res (.lit (.bool true))).value [] {args:=args,res:=some (.bool true),after:=args}=some (.bool (true==true)) from w_eq_bool (w_res rfl) w_lit) rfl
theorem attach_call{l:OpenLaw}{n:Nat}{q:Program}{loose:List Str}{XP:(Str->Option Value)->Heap->Prop}{YP:World->Heap->Prop}{d:DefRec}
  (hn:l.most=some n) (hdf:d.params.defaults= [])
  (call: ∀(w:World) (s₀ s₁:Shared) (mg mb:Str->Option Value) (fa:Addr) (o:Obj) (pm cd doc:Value) (a:Addr) (vs:List Value) (ns:List Int),
   Ground q loose [] XP w s₀ mg mb s₁.heap->YP w s₁.heap->
   s₁.heap.get? fa=some o->o.data= .func (docDef d.name d.params d.body d.scope pm cd doc)->s₁.heap.CodeRec cd d.name->mg d.name=some (.ref fa)->
   s₁.heap.get? a=some {cls:= .type "list",data:= .seq vs.toArray}->IntsAre vs ns->ns.length<=n->s₁.gens= #[]->
   codeAny (model l.prog w) callerA (.call (.ref fa) ⟨[.ref a], []⟩) (λr s'=>r= .ok (.ret (.bool true))/\OldK s₁.heap s'.heap/\s'.os=s₁.os/\AllBare s'.gens) s₁):
  WalkO q loose XP YP l.row.toRowW d [] (λf vs=>PySem.call f vs):=by
 intro w s₀ s₁ mg mb G Y fa o pm cd doc dV kV ho hd hcd hD hmg hg args vals as hpre hlay hrd hwl hlo;obtain rfl:dV= .none:=Dflts.none hD hdf;obtain rfl:kV= .none:=Dflts.noKw hD;obtain⟨a,vs,ns,rfl,rfl,hobj,hints,hlen⟩:=zjP hn hpre hwl;refine enter_call (codeAny_mono (call w s₀ s₁ mg mb fa o pm cd doc a vs ns G Y ho (fd_plain hd) hcd hmg hobj hints hlen hg) λr s' hq=> ?_);obtain⟨rfl,h2,h3,h4⟩:=hq;exact⟨.inl ⟨.bool true, .bool true, [],rfl,λ_=>rfl, .bool true,zjQ l _,λ_=>⟨List.Pairwise.nil,λ_ hm=>(nomatch hm)⟩⟩,h2,h3,h4⟩
section
variable {prog:Program} {w:World} {A:Around} {E:Value->Shared->Prop} {s:Shared} {K:Frag}
end
end Att
namespace L2
open PySem PySem.Spec PyProof.Rows
variable{x:Str}{H:Hp}
theorem zf1: ∀{vs:List Value} {ns:List Int},IntsAre vs ns->zB (ns.map V.int) vs
 |_,_, .nil=> .nil
 |_,_, .cons n t h=> .cons ⟨t,rfl⟩ (zf1 h)
def jV(H:Hp):Prop:= ∀b,H b=none\/ ∃o xs,H b=some (.frz o (.lst xs))
theorem zkL{P:Program}{w:World}{K:Fg}{mg mb:Str->Option Value}{CX:CXT}{k:Nat}{fa a:Addr}{fd:FuncData}{x:Str}{sp:Sp}{s₁:Shared}{vs:List Value}{ns:List Int}
  (KX:K.In s₁.heap) (hns:s₁.heap.Ns mainGlobals mg) (hb:s₁.heap.Ns builtinsNs mb) (hbb: ∀x:Str,x≠"__name__"->mb x=bootBuiltins x) (hlim:s₁.heap.NoLimit) (hg:s₁.gens= #[])
  (ha:s₁.heap.get? a=some {cls:= .type "list",data:= .seq vs.toArray}) (hi:IntsAre vs ns) (hl:ns.length<=sizeLine) (hr:Room k callerA)
  (F: ∀base:Heap,K.In base->base.Ns mainGlobals mg->FnOk P w K mg base CX k fa fd [x] sp) (hbind: ∀(s:Shared) (u:Value),BindsTo s fd ⟨[u], []⟩ [(x,u)])
  (hsp: ∀H:Hp,jV H->SqL K H a (ns.map V.int)->sp [.ref a] H (λv _=>v= .bl true) λ_ _ _=>False)
  (hCX: ∀H e s',CX [] H s₁ (λ_ _ _=>False) e s'->False):
  codeAny (model P w) callerA (.call (.ref fa) ⟨[.ref a], []⟩) (λr s'=>r= .ok (.ret (.bool true))/\OldK s₁.heap s'.heap/\s'.os=s₁.os/\AllBare s'.gens) s₁:=by
 have rv:=zf1 hi;have lenV:=hi.length;have core: ∀H:Hp,jV H->SqL K H a (ns.map V.int)->HOk P w H s₁.heap->(∀b,H b≠none->b=a)->(H a≠none->K.lookup a=none)->
   codeAny (model P w) callerA (.call (.ref fa) ⟨[.ref a], []⟩) (λr s'=>r= .ok (.ret (.bool true))/\OldK s₁.heap s'.heap/\s'.os=s₁.os/\AllBare s'.gens) s₁:=by
  intro H hO hS hok hA hK;have base_of: ∀{b:Addr} {o:Obj},s₁.heap.get? b=some o->H b=none->(xF s₁.heap H).get? b=some o:=λe n=>zkf e n;have noA: ∀{b:Addr} {o:Obj} {es:Array DictEntry} {ep:Nat},s₁.heap.get? b=some o->o.data= .dict es ep->H b=none:=fun {b o es ep} e d=>by
   cases q:H b with
   |none=>rfl
   |some u=>
    have e':b=a:=hA b (by rw[q];simp);subst e';rw[ha] at e;cases e;have d':Data.seq vs.toArray _=Data.dict es ep:=d;cases d'
  have nsK: ∀{b:Addr} {m:Str->Option Value},s₁.heap.Ns b m->(xF s₁.heap H).Ns b m:=fun {b m} ⟨o,es,ep,e,d,r⟩=>⟨o,es,ep,base_of e (noA e d),d,r⟩
  have hKb:K.In (xF s₁.heap H):=λb o e=>base_of (KX b o e) (by
   cases q:H b with
   |none=>rfl
   |some u=>
    have e':b=a:=hA b (by rw[q];simp);subst e';rw[hK (by rw[q];simp)] at e;cases e)
  have hM:Mod K mg (xF s₁.heap H):=⟨hKb,nsK hns,⟨mb,nsK hb,hbb⟩,let ⟨mc,h1,h2⟩:=hlim;⟨mc,nsK h1,h2⟩⟩
  have e0:Env0 P w K mg (xF s₁.heap H) callerA [] s₁ H:=⟨rfl,hM,λb o e=>zmv e,Nat.le_of_eq (zjF _ _),trivial,λb hb=>absurd (show b∈([]:List Addr) from hb) (by simp),hok, .of_eq hg⟩
  refine codeAny_mono ((F _ hKb (nsK hns)).run callerA [] s₁ H ⟨[.ref a], []⟩ [.ref a] [.ref a] _ _ hr e0 (hbind s₁ (.ref a)) (.cons rfl .nil) (hsp H hO hS)) λr s' h=> ?_;cases r with
  |error e=>exact(hCX H e s' h).elim
  |ok fl=>
   cases fl with
   |next=>exact False.elim h
   |brk=>exact False.elim h
   |cont=>exact False.elim h
   |ret u=>
    obtain⟨v,H',os,bare,un,hok',r',q⟩:=h;have q':v= .bl true:=q;subst q';obtain rfl:u=Value.bool true:=r';refine⟨rfl,OldK.of_keep λb o e=> ?_,os,bare⟩;cases q:H b with
    |none=>exact un.keep b o e q (by intro z;exact absurd (show b∈([]:List Addr) from z) (by simp)) (by simp)
    |some u=>
     rcases hO b with z|⟨ob,xs,z⟩
     ·rw[q] at z;cases z
     ·have z2:=un.frzs b ob _ z;obtain⟨e1,_⟩:=hok b _ z;obtain⟨e2,_⟩:=hok' b _ z2;rw[e] at e1;cases e1;exact e2
 cases hk:K.lookup a with
 |some o=>
  have e:=KX a o hk;rw[ha] at e;cases e;refine core (λ_=>none) (λ_=> .inl rfl) (.inr ⟨_,vs.toArray,_,hk,rfl,rfl,rfl,by rw[Jn,lenV];exact hl,by simpa using rv⟩) (λb u z=>by have z':(none:Option HO)=some u:=z;cases z') (λb z=>absurd rfl z) λz=>absurd rfl z
 |none=>
  refine core (λb=>if b=a then some (.frz {cls:= .type "list",data:= .seq vs.toArray} (.lst (ns.map V.int))) else none) (λb=> ?_) (.inl (.inr ⟨{cls:= .type "list",data:= .seq vs.toArray},Jg rfl⟩)) (λb u z=> ?_) (λb z=> ?_) λ_=>hk
  ·by_cases hb:b=a
   ·exact .inr ⟨_,_,Jg hb⟩
   ·exact .inl (Jf hb)
  ·by_cases hb:b=a
   ·have z':=(Jg hb).symm.trans z;cases z';subst hb;exact⟨ha,by rw[Ja];exact hl,vs,_,rv,ha⟩
   ·have z':=(Jf hb).symm.trans z;cases z'
  ·by_cases hb:b=a
   ·exact hb
   ·exact absurd (Jf hb) z
abbrev KOf{K:Fg}{h:Heap}(_:K.In h):Fg:=K
theorem walk_of{l:PySem.W.OpenLaw}{n k:Nat}{q:Program}{loose:List Str}{XP:(Str->Option Value)->Heap->Prop}{YP:World->Heap->Prop}{d:DefRec}{K:Params->Fg}{CX:World->CXT}{sp:World->Sp}{x:Str}
  (hn:l.most=some n) (hn2:n<=sizeLine) (hdf:d.params.defaults= []) (hr:Room k callerA)
  (hY: ∀(w:World) (h:Heap),YP w h->(K w.params).In h)
  (F: ∀(w:World) (mg:Str->Option Value) (fa:Addr) (h:Heap),(K w.params).In h->h.Ns mainGlobals mg->mg d.name=some (.ref fa)->
   ∃fd:FuncData,(∀(s:Shared) (u:Value),BindsTo s fd ⟨[u], []⟩ [(x,u)])/\
    ∀base:Heap,(K w.params).In base->base.Ns mainGlobals mg->FnOk l.prog w (K w.params) mg base (CX w) k fa fd [x] (sp w))
  (hsp: ∀(w:World) (H:Hp) (a:Addr) (ns:List Int),ns.length<=n->jV H->SqL (K w.params) H a (ns.map V.int)->sp w [.ref a] H (λv _=>v= .bl true) λ_ _ _=>False)
  (hCX: ∀(w:World) (H:Hp) (s:Shared) (e:Value) (s':Shared),CX w [] H s (λ_ _ _=>False) e s'->False):
  PySem.W.WalkO q loose XP YP l.row.toRowW d [] (λf vs=>PySem.call f vs):=by
 refine Att.attach_call hn hdf λw s₀ s₁ mg mb fa o pm cd doc a vs ns G Y ho hd hcd hmg hobj hints hlen hg=> ?_;have KX:=hY w _ Y;obtain⟨fd,hb,hF⟩:=F w mg fa _ KX G.T.g hmg;exact zkL KX G.T.g G.T.b G.T.builtins G.T.nolimit hg hobj hints (JE hlen hn2) hr hF hb (λH hO hS=>hsp w H a ns hlen hO hS) λH e s'=>hCX w H s₁ e s'
def wI(s:Stmt):Arguments:=match s with
 | .FunctionDef _ a _ _ _ _ _ _ _ _=>a
 |_=>{posonlyargs:= [],args:= [],vararg:=none,kwonlyargs:= [],kw_defaults:= [],kwarg:=none,defaults:= []}
def xX(s:Stmt):List Stmt:=match s with
 | .FunctionDef _ _ b _ _ _ _ _ _ _=>b
 |_=> []
def zE(s:Stmt):Scope:=match s with
 | .FunctionDef _ _ _ _ _ _ sc _ _ _=>sc
 |_=>{kind:= .function,names:= [],isGenerator:=false,isCoroutine:=false}
structure Fun (K:Fg) (x qual:Str) (st:Stmt) (f:Addr) (fd:FuncData):Prop where
 ex: ∃(oc:Value) (od:Option Addr) (kV doc pm:Value) (an:Option Addr) (cdv ct:Value) (osl:Array (Option Value)),
  fd=PySem.W.fnOf x qual (wI st) (xX st) (zE st) .none kV doc pm an cdv ct/\K.lookup f=some ⟨oc,od, .func fd,osl⟩/\PySem.W.codeIn K cdv qual=true
 kp:PySem.W.keepIn K (.ref f)=true
section
variable {P:Program} {w:World} {K:Fg} {mg:Str->Option Value} {base:Heap}
theorem Fun.binds{qual:Str}{st:Stmt}{f:Addr}{fd:FuncData}{ps:List Str}(F:Fun K x qual st f fd)
  (h: ∀(kV doc pm:Value) (an:Option Addr) (cdv ct:Value) (us:List Value),us.length=ps.length->bindArgs (PySem.W.fnOf x qual (wI st) (xX st) (zE st) .none kV doc pm an cdv ct) ⟨us, []⟩=pure (ps.zip us)):qc K fd ps []:=by
 obtain⟨oc,od,kV,doc,pm,an,cdv,ct,osl,rfl,lk,hcd⟩:=F.ex;exact .all (h kV doc pm an cdv ct)
theorem zkM{qual:Str}{st:Stmt}{f:Addr}{oc:Value}{od an:Option Addr}{osl:Array (Option Value)}{kV doc pm cdv ct:Value}(l:K.lookup f=some ⟨oc,od, .func (PySem.W.fnOf x qual (wI st) (xX st) (zE st) .none kV doc pm an cdv ct),osl⟩)
  (c:PySem.W.codeIn K cdv qual=true) (k:PySem.W.keepIn K (.ref f)=true):Fun K x qual st f (PySem.W.fnOf x qual (wI st) (xX st) (zE st) .none kV doc pm an cdv ct):=⟨⟨oc,od,kV,doc,pm,an,cdv,ct,osl,rfl,l,c⟩,k⟩
end
theorem yn{A:Around}{k:Nat}(hr:Room k A):A.units+1<cLine:=Nat.lt_of_le_of_lt (Nat.add_le_add_left (by decide:1<=64) _) hr.units
theorem qi{n:Nat}(h:n<=1000):n<sizeLine:=Nat.lt_of_le_of_lt h 'd'
section
variable {X:Cx}
theorem pv(i:Nat){pos:Pos}(hN:X.N[i]? =some x:=by rfl)(hv:Vis X.env.scope x:=by first|exact Or.inl rfl|exact Or.inr (Or.inl rfl)|exact Or.inr (Or.inr rfl))(hd:(x==("__debug__":Str))=false:=by decide)
  (hcd:(x==("__classdict__":Str))=false:=by decide):PE X (.Name x pos) (jD i):=zkg hN hv hd hcd
end
def zk(H H':Hp):Prop:= ∀b o,H b=some o->H' b=some o
theorem zk.refl(H:Hp):zk H H:=λ_ _ h=>h
theorem zk.trans{H1 H2:Hp}(a:zk H H1)(b:zk H1 H2):zk H H2:=λc o h=>b c o (a c o h)
theorem zk.free{H':Hp}(e:zk H H'){l:Addr}(h:H' l=Option.none):H l=Option.none:=by
 cases q:H l with
 |none=>rfl
 |some o=>
  rw[e l o q] at h;cases h
theorem zk.seq{K:Fg}{H':Hp}{a:Addr}{xs:List V}(e:zk H H')(h:SqL K H a xs):SqL K H' a xs:=by
 rcases h with(h|⟨o,h⟩)|h
 ·exact .inl (.inl (e _ _ h))
 ·exact .inl (.inr ⟨o,e _ _ h⟩)
 ·exact .inr h
end L2
set_option maxHeartbeats 4000000
namespace L2
open PySem PySem.Spec PyProof.Rows
variable{P:Program}{w:World}{H:Hp}{a:Addr}{o:HO}{K:Fg}{base:Heap}{N:List Str}{qual:Str}{scope:Scope}{A:Around}{s:Shared}{pins:List (Addr×Obj)}{σ:St}{Q:VK}{x v:V}{X:Cx}{n:Nat}{xs ys:List V}{i:Int}{env:Env}{wi:TI}{ds:List D}{e:D}
theorem z6.is{h:Heap}(x:z6 P w H h a o): ∃ob,h.get? a=some ob:=by
 cases o with
 |lst xs=>obtain⟨_,_,_,_,e⟩:=x;exact⟨_,e⟩
 |tup xs=>obtain⟨_,_,_,ob,e,_⟩:=x;exact⟨_,e⟩
 |dK kvs=>obtain⟨_,_,_,_,o,_,_,e,_⟩:=x;exact⟨_,e⟩
 |dT kvs=>obtain⟨_,_,_,_,o,_,_,e,_⟩:=x;exact⟨_,e⟩
 |set S n=>obtain⟨o,_,_,_,e,_⟩:=x;exact⟨_,e⟩
 |ins C dx fs=>obtain⟨_,_,_,e,_⟩:=x;exact⟨_,e⟩
 |own y=>obtain⟨_,e⟩:=x;exact⟨_,e⟩
 |xd fs=>obtain⟨_,⟨_,_,_,e,_⟩,_⟩:=x;exact⟨_,e⟩
 |rng lo hi=>obtain⟨_,_,_,e⟩:=x;exact⟨_,e⟩
 |frz ob u=>obtain⟨e,_⟩:=x;exact⟨_,e⟩
 |tbl ps=>exact⟨_,(show h.get? a=some _ from x)⟩
 |met f y=>exact⟨_,(show h.get? a=some _ from x)⟩
 |ext φ=>obtain⟨_,⟨_,e⟩,_⟩:=x;exact⟨_,e⟩
structure Fly (P:Program) (w:World) (l:List Env) (H:Hp) (s:Shared) (ea:Addr) (cls:Value) (H':Hp) (s':Shared):Prop where
 os:s'.os=s.os
 bare:AllBare s'.gens
 un:Un (frs l) [] H H' s.heap s'.heap
 ex: ∃B a0,Heap.FlyingW B l ea cls a0 s'.heap/\HOk P w H' B/\(∀b o,s.heap.get? b=some o->H b=none->b∉frs l->B.get? b=some o)/\
  ∀b o,s.heap.get? b=some o->b∉frs l-> ∃o',B.get? b=some o'
structure Cx.Own (X:Cx):Prop where
 stk:X.stack=X.env::X.outer
 fr:X.env.frame=some X.env.locals
 ex:X.ex= []
section
variable {X:Cx} {pins:List (Addr×Obj)} {σ:St} {H H':Hp} {s s':Shared} {ea:Addr} {cls a0:Value} {B h1 h2 h':Heap} {M:Model} {E:Value->Shared->Prop} {Q:Unit->Shared->Prop}
theorem Inv.fly_out(W:X.Own)(I:Inv X pins σ H s)(u:Un (frs X.stack) [] H H' s.heap h1)(up:h1.UpToSlots s'.heap)(ff:h1.FunFrames B X.stack)(fl:Heap.FlyingW B X.outer ea cls a0 s'.heap)(hok:HOk X.prog X.w H' B)
  (kp: ∀b o,s.heap.get? b=some o->H b=none->b∉frs X.stack->B.get? b=some o) (th: ∀b o,s.heap.get? b=some o->b∉frs X.stack-> ∃o',B.get? b=some o') (os:s'.os=s.os) (bare:AllBare s'.gens):
  Fly X.prog X.w X.outer X.H₀ X.s₀ ea cls H' s':=by
 have nst: ∀b o,X.s₀.heap.get? b=some o->b∉frs X.outer->b∉frs X.stack:=λb o e hb z=>by
  rcases JD.mp (I.stkSub b z) with q|q
  ·exact absurd q (JK (Jy (Qb e) I.ok.above))
  ·exact hb q
 have nx: ∀b,b∉X.ex:=λb=>by rw[W.ex];simp
 have nn: ∀b:Addr,b∉([]:List Addr):=λb=>by simp
 have inS: ∀b,b∈frs X.outer->b∈frs X.stack:=λb hb=>by
  rw[W.stk];obtain⟨env,he,hf⟩:=List.mem_filterMap.mp hb;exact List.mem_filterMap.mpr ⟨env,Jl _ he,hf⟩
 have kpo: ∀b o,X.s₀.heap.get? b=some o->X.H₀ b=none->b∉frs X.outer->B.get? b=some o:=λb o e n hb=>
  kp b o (I.base.keep b o e n hb (nx b)) (I.base.free b o e n (nx b)) (nst b o e hb)
 refine⟨os.trans I.os,bare,⟨λb o e n hb _=>fl.1 b o (kpo b o e n hb),λb o e n hb _=> ?_,λb o e n _=> ?_,λb o e _=> ?_,λb xs e=>u.tups b xs (I.base.tups b xs e),λb o xs e=>u.frzs b o xs (I.base.frzs b o xs e),λb ps e=> ?_⟩,
  B,a0,fl,hok,kpo,λb o e hb=> ?_⟩
 ·obtain⟨sl,e1⟩:=I.base.slot b o e n hb (nx b);obtain⟨sl2,e2⟩:=u.any e1 (I.base.free b o e n (nx b)) (nn b);obtain⟨_,o',ho',hnf⟩:=ff.mem (inS b hb);rw[e2] at ho';cases ho';obtain⟨sl3,e3⟩:=up b _ e2 hnf;exact⟨sl3,e3⟩
 ·obtain⟨o',e1⟩:=I.base.there b o e (nx b);exact u.free b o' e1 (I.base.free b o e n (nx b)) (nn b)
 ·obtain⟨o1,e1⟩:=I.base.there b o e (nx b);by_cases hb:b∈frs X.stack
  ·obtain⟨_,o',ho',hnf⟩:=ff.mem hb;obtain⟨sl3,e3⟩:=up b _ ho' hnf;exact⟨_,e3⟩
  ·obtain⟨o2,e2⟩:=th b o1 e1 hb;exact⟨o2,fl.1 b o2 e2⟩
 ·obtain⟨m1,e1⟩:=I.base.tbls b ps e;obtain⟨m2,e2⟩:=u.tbls b _ e1;exact⟨m1++m2,by rw[e2,Array.append_assoc]⟩
 ·obtain⟨o1,e1⟩:=I.base.there b o e (nx b);exact th b o1 e1 (nst b o e hb)
theorem zou(W:X.Own)(I:Inv X pins σ H s)(F:Fly X.prog X.w X.stack H s ea cls H' s')
  (hQ: ∀h',Fly X.prog X.w X.outer X.H₀ X.s₀ ea cls H' {s' with heap:=h'}->Q () {s' with heap:=h'}):wpAny M X.A (leaving X.env (.ref ea)) Q E s':=by
 obtain⟨B,a0,fl,hok,kp,th⟩:=F.ex;have fl2:=fl;rw[W.stk] at fl2;refine wpAny_leaves_onW (by rw[I.ok.frames,W.stk]) W.fr fl2 λh' fl' up=>hQ h' ?_;exact I.fly_out W F.un up fl.2.2.1 fl' hok kp th F.os F.bare
theorem Inv.hide(I:Inv X pins σ H s):HOk X.prog X.w H (PySem.W.hideAll s.heap (frs X.stack))/\
  s.heap.FunFrames (PySem.W.hideAll s.heap (frs X.stack)) X.stack:=by
 refine⟨λa u e=>(I.hok a u e).stay (λb v hc q=>PySem.W.hideAll_get _ q λz=> ?_) (λ_ q=>q) λ_ _ q=>q,PySem.W.funFrames_hide I.stack λenv he a ha=>List.mem_filterMap.mpr ⟨env,he,ha⟩⟩;have n:=I.stkFree b z;rcases hc with rfl|hc
 ·rw[n] at e;cases e
 ·rw[n] at hc;cases hc
theorem zmK(W:X.Own)(I:Inv X pins σ H s){args:List Value}(hx:Heap.MadeExcOf s.heap h2 ea cls args)
  (hQ: ∀h',Fly X.prog X.w X.outer X.H₀ X.s₀ ea cls H {s with heap:=h'}->Q () {s with heap:=h'}):wpAny M X.A (leaving X.env (.ref ea)) Q E {s with heap:=h2}:=by
 obtain⟨hok,ff⟩:=I.hide;have ff2:=ff;rw[W.stk] at ff2;refine wpAny_leaves_madeW (s:={s with heap:=h2}) (base:=PySem.W.hideAll s.heap (frs X.stack)) (h:=s.heap) (by rw[I.ok.frames,W.stk]) W.fr (λb o q=>PySem.W.of_hideAll _ q) (by rw[<-W.stk];exact ff) hx λh' t fl tup bt up=>hQ h' ?_;exact I.fly_out (s':={s with heap:=h'}) W (Un.kept hx.keeps) up (ff.of_keeps λb o e _=>⟨o,hx.keeps b o e,rfl⟩) fl hok (λb o e _ hb=>PySem.W.hideAll_get _ e hb) (λb o e hb=>⟨o,PySem.W.hideAll_get _ e hb⟩) rfl I.bare
end
def CXE(P:Program)(w:World):CXT:=λl H s E e s'=> ∃ea cls H',e= .ref ea/\Fly P w l H s ea cls H' s'/\E cls none H'
structure Lv (X:Cx) (Ek:St->XK):Prop where
 call: ∀pins σ ea cls H H' s s',Inv X pins σ H s->Fly X.prog X.w X.stack H s ea cls H' s'->Ek σ cls none H'->X.xe (.ref ea) s'
structure LvR (X:Cx) (Ek:St->XK):Prop extends Lv X Ek where
 new: ∀pins σ ea cls args H s h2,Inv X pins σ H s->Heap.MadeExcOf s.heap h2 ea cls args->Ek σ cls none H->X.xe (.ref ea) {s with heap:=h2}
theorem zov{P:Program}{w:World}{K:Fg}{mg:Str->Option Value}{base:Heap}{N:List Str}{qual:Str}{scope:Scope}{f:Addr}{cd:Value}{A:Around}{outer:List Env}{s:Shared}{H:Hp}{E:XK}:
  LvR (xw (CXE P w) P w K mg base N qual scope f cd A outer s H E) (λ_=>E):=by
 have W:(xw (CXE P w) P w K mg base N qual scope f cd A outer s H E).Own:=⟨rfl,rfl,rfl⟩
 refine⟨⟨λpins σ ea cls H1 H' s1 s' I F q=> ?_⟩,λpins σ ea cls args H1 s1 h2 I hx q=> ?_⟩
 ·exact zou W I F λh' F=>⟨ea,cls,H',rfl,F,q⟩
 ·exact zmK W I hx λh' F=>⟨ea,cls,H1,rfl,F,q⟩
section
variable {X:Cx} {Ek:St->XK} {k:Nat} {f C:Addr} {fd:FuncData} {ps:List Str} {sp:Sp} {dvs:List V} {ds:List Value} {x:Str} {p pos:Pos} {e:Expr} {es:List Expr} {t:TA}
theorem zmL{pins:List (Addr×Obj)}{σ:St}{H:Hp}{s:Shared}{Q:VK}{us:List Value}{vs:List V}(L:Lv X Ek)(F:FnOk X.prog X.w X.K X.mg X.base (CXE X.prog X.w) k f fd ps sp)(hr:Room k X.A)(hb:qc X.K fd ps ds)(hd:zB dvs ds)
  (I:Inv X pins σ H s) (r:zB vs us) (h:sp (vs++dvs) H Q (Ek σ)):wpAny (model X.prog X.w) X.A (call (.ref f) us) (EP X pins σ Q) X.xe s:=by
 have r2:zB (vs++dvs) (us++ds):=r.append hd;have hl:(us++ds).length=ps.length:=by rw[<-r2.length];exact F.len _ _ _ _ h
 refine wpAny_call (codeAny_mono (F.run X.A X.stack s H ⟨us, []⟩ (us++ds) (vs++dvs) Q (Ek σ) hr I.env0 (hb s us I.kIn hl) r2 h) λr s' hq=> ?_);cases r with
 |error e=>
  obtain⟨ea,cls,H',rfl,fl,q⟩:=hq;exact L.call pins σ ea cls H H' s s' I fl q
 |ok fl=>
  cases fl with
  |ret u=>exact I.after hq
  |next=>exact False.elim hq
  |brk=>exact False.elim hq
  |cont=>exact False.elim hq
def jW(sp:Sp)(dvs:List V)(Ek:St->XK)(t:TA):TE:=λσ H Q=>t σ H λvs H1=>sp (vs++dvs) H1 Q (Ek σ)
theorem zkN(L:Lv X Ek)(F:FnOk X.prog X.w X.K X.mg X.base (CXE X.prog X.w) k f fd ps sp)(hr:Room k X.A)(hg:Gl X x)(hm:X.mg x=some (.ref f))(hk:PySem.W.keepIn X.K (.ref f)=true)(hb:qc X.K fd ps ds)(hd:zB dvs ds)
  (ha:PA X (e::es) t) (hdb:(x==("__debug__":Str))=false:=by decide) (he:starEach (e::es) X.env=(false,eval e X.env)::starEach es X.env:=by rfl) (hpl:(backTo pos (starEach es X.env)).any (·.1)=false:=by rfl):
  PE X (.Call (.Name x p) (e::es) [] pos) (jW sp dvs Ek t):=by
 intro pins s σ H Q I h;refine wpAny_Call_Name_kw (vG I hg hm ?_ hdb);refine PySem.W.callWith_K (h₀:=X.base) I.ok.mod.kin hk (thn (ha pos pins s σ H _ I h) λus s1 ⟨vs,H1,I1,r,q⟩=>⟨I1.kIn,?_⟩) he hpl;exact zmL L F hr hb hd I1 r q
structure Exc (K:Fg) (C:Addr):Prop where
 ok: ∃bmB newId initId,ExcBaseFacts "ValueError" newId initId bmB/\PySem.W.excIn K C bmB newId=true
theorem zmM{h:Heap}{bmB:List Value}{newId:String}(X:K.In h)(q:PySem.W.excIn K C bmB newId=true):
  ∃bm N nm q bs hdct sn sub ab col dd k0 k1 k2 k3 k5 mN,h.get? C=some (excClassObj nm q C N bs bm hdct sn sub ab col dd k0 k1 k2 k3 k5 newId)/\h.Ns N mN/\mN "__init__"=none/\OwnTail h bmB bm:=by
 unfold PySem.W.excIn at q;split at q
 case h_2=>cases q
 case h_1 dd cd sl ho=>
  split at q
  case h_2=>cases q
  case h_1 C1 bm1 a0 a1 a2 a3 nw a5 hm hs=>
   simp only[Bool.and_eq_true,beq_iff_eq,Bool.not_eq_true'] at q;obtain⟨⟨⟨⟨⟨e1,e2⟩,e3⟩,e4⟩,e5⟩,e6⟩:=q;subst e1;subst e2;cases cd with
   |mk nm bs mro ns qn hd sn sub ab col del=>
    have m1:mro= .ref C1::bm1:=hm;have m2:del=false:=e3;subst m1;subst m2;have z:sl= #[a0,a1,a2,a3,some (.builtin nw),a5]:=Array.toList_inj.mp hs;subst z;exact⟨bm1,ns,nm,qn,bs,hd,sn,sub,ab,col,dd,a0,a1,a2,a3,a5,_,X _ _ ho,Heap.Ns.of_isNs (PySem.W.isNs_of_in X e5),PySem.W.nsMap_none_of_in X e5 e6,PySem.W.tail_of_in X e4⟩
def jX(C:Addr)(Ek:St->XK)(t:TA):TS:=λ_ σ H=>t σ H λvs H1=>vs.length<=sizeLine/\Ek σ (.ref C) none H1
theorem zkO(L:LvR X Ek)(O:Exc X.K C)(hc:X.calm=true)(hg:Gl X x)(hm:X.mg x=some (.ref C))(ha:PA X (e::es) t)(hdb:(x==("__debug__":Str))=false:=by decide)
  (he:starEach (e::es) X.env=(false,eval e X.env)::starEach es X.env:=by rfl) (hpl:(backTo pos (starEach es X.env)).any (·.1)=false:=by rfl) {rpos:Pos}:
  PS X (.Raise (some (.Call (.Name x p) (e::es) [] pos)) none rpos) (jX C Ek t):=by
 intro pins s σ H D I h;obtain⟨bmB,newId,initId,FB,q⟩:=O.ok;obtain⟨tl,N,nm,qn,bs,hdct,sn,sub,ab,col,dd,k0,k1,k2,k3,k5,mN,hC,hN,hni,T⟩:=zmM I.ok.mod.kin q;refine wpAny_Raise_call_subT (C:=C) (nm:=nm) (q:=qn) (N:=N) (bs:=bs) (bm:=tl) (hdct:=hdct) (sn:=sn) (sub:=sub) (ab:=ab) (col:=col) (dd:=dd) (k0:=k0) (k1:=k1) (k2:=k2) (k3:=k3) (k5:=k5)
  FB (mN:=mN) (T.hasType FB.hasBase) (I.ok.hd hc) (by rw[he];show (false||(backTo pos (starEach es X.env)).any (·.1))=false;rw[hpl];rfl) hni (vG I hg hm ⟨rfl,?_⟩ hdb)
 have ha':=ha pos pins s σ H _ I h;rw[he] at ha' ⊢;refine Calls.evalArgs_plain (wpAny_mono ha' (λus s2 hq=> ?_) λ_ _ y=>y);obtain⟨vs,H1,I1,r,hl,q1⟩:=hq;refine⟨rfl,by rw[<-r.length];exact hl,I1.bk _ _ hC,hN.keeps I1.bk,T.keeps I1.bk,λh' ea hm=> ?_⟩;exact L.new pins σ ea _ us H1 s2 h' I1 hm q1
end
def znL(ea:Addr)(cls:Value):HO:= .ext λh=> ∃o vs,h.get? ea=some o/\o.cls=cls/\o.data= .fields vs
section
variable {X:Cx} {pins:List (Addr×Obj)} {σ:St} {H H':Hp} {s s':Shared}
end
section
variable {X:Cx} {body suite:List Stmt} {b₀:Stmt} {n xn:Str} {i:Nat} {C:Addr} {tb:(St->XK)->TS} {ts:TS} {np hpos pos:Pos}
end
theorem Fun.okX{P:Program}{w:World}{mg:Str->Option Value}{base:Heap}{x:Str}{st:Stmt}{f:Addr}{fd:FuncData}{ps:List Str}{k:Nat}{sp:Sp}(F:Fun K x qual st f fd)(S:FnScope N ps (zE st))(len: ∀vs H Q E,sp vs H Q E->vs.length=ps.length)
  (hbody: ∀(cdv:Value) (A:Around) (outer:List Env) (s:Shared) (H:Hp) (vs:List V) (Q:VK) (E:XK),LvR (xw (CXE P w) P w K mg base N qual (zE st) f cdv A outer s H E) (λ_=>E)->Room k (A.deeper (envOfC qual (zE st) s.heap.objs.size f cdv))->sp vs H Q E->
   ∃t,PSs (xw (CXE P w) P w K mg base N qual (zE st) f cdv A outer s H E) (xX st) t/\t {nx:=λ_ H'=>Q .non H',rt:=Q} (start N vs) H):FnOk P w K mg base (CXE P w) (k+1) f fd ps sp:=by
 obtain⟨oc,od,kV,doc,pm,an,cdv,ct,osl,rfl,lk,hcd⟩:=F.ex;exact zp7 lk hcd S len λA outer s H vs Q E hr hsp=>hbody cdv A outer s H vs Q E zov hr hsp
theorem xY:bootBuiltins "len"=some (.builtin "len"):=by decide+kernel
theorem xA:bootBuiltins "min"=some (.builtin "min"):=by decide+kernel
theorem zf2:bootBuiltins "divmod"=some (.builtin "divmod"):=by decide+kernel
theorem vM:bootBuiltins "isinstance"=some (.builtin "isinstance"):=by decide+kernel
theorem vN:bootBuiltins "int"=some (.type "int"):=by decide+kernel
theorem zow:bootBuiltins "str"=some (.type "str"):=by decide+kernel
theorem zmN:bootBuiltins "bool"=some (.type "bool"):=by decide+kernel
theorem zkP:bootBuiltins "tuple"=some (.type "tuple"):=by decide+kernel
theorem uC:bootBuiltins "list"=some (.type "list"):=by decide+kernel
open PySem.Builtin PySem.Builtin.ObjectAttr PySem.Builtin.Getset_descriptor
structure ExcCls (K:Fg) (D:Addr):Prop where
 cls:(PySem.W.clsIn K D).isSome=true
 ga:PySem.W.findIn K (.ref D) "__getattribute__"=some (some (.builtin "BaseException.__getattribute__"))
 gt:PySem.W.findIn K (.ref D) "__getattr__"=some none
 cl:PySem.W.findIn K (.ref D) "__class__"=some (some (.builtin "object.__class__"))
 mo:PySem.W.mroIn K D (.type "object")=some true
 mb:PySem.W.mroIn K D (.type "BaseException")=some true
section
variable {prog:Program} {w:World} {A:Around} {E:Value->Shared->Prop} {h:Heap} {g:Array GenState} {d:Drawn} {t:Nat} {os:OsState} {K:Fg} {a D:Addr} {o:Obj}
theorem vO{M:Model}(hx:h.get? a=some o)(hc:o.cls= .ref D):PySem.W.Looks M h (typeOf (.ref a)) (.ref D):=hc ▸ (PySem.W.Looks.ld hx).andThen .now
theorem zfQ{R:Result->Shared->Prop}(X:K.In h)(C:ExcCls K D)(hx:h.get? a=some o)(hc:o.cls= .ref D)(hq:R (.ok (.ret (.ref D))) ⟨h,g,d,t,os⟩):
  codeAny (model prog w) A (.call (.builtin "getset_descriptor.__get__") ⟨[.builtin "object.__class__", .ref a, .ref D], []⟩) R ⟨h,g,d,t,os⟩:=by
 have L0:=vO (M:=model prog w) hx hc;have L1:=PySem.W.looks_mroIn (M:=model prog w) X C.mo;have T5:(⟨h,g,d,t,os⟩:Shared).TypeIs (.builtin "object.__class__") "getset_descriptor":=F.typeOf_object_class;refine codeAny_call_builtin F.slot_gs_get.plain F.entry_gs_get (F.slot_gs_get.check _ _ _ _ _ _ _ _ T5 (F.args_gs_get _ _ _) ?_);unfold Builtin.«getset_descriptor.__get__» descrGet;rw[PySem.W.dga_obj];refine JW (JX ?_);unfold descrGetter descrCheckInstance descrNameAndClass;unfold isInstance;simp only[PySem.W.KF.owner_class];repeat lk
 refine⟨Code.quiet_builtin _ (by decide+kernel),codeAny_builtin F.entry_object_class ?_⟩;unfold Builtin.«object.__class__»;unfold shownTypeOf;repeat lk
 exact hq
theorem zeG{tk:Tok}{Q:Fin->Shared->Prop}(X:K.In h)(C:ExcCls K D)(hx:h.get? a=some o)(hc:o.cls= .ref D)(hq:Q (.done (.ret (.ref D))) ⟨h,g,d,t,os⟩):
  wpAny (model prog w) A (Builtin.«object.__getattribute__» ⟨[.ref a, .str "__class__" tk], []⟩) Q E ⟨h,g,d,t,os⟩:=by
 have L0:=vO (M:=model prog w) hx hc;have L1:=PySem.W.looks_findIn (M:=model prog w) X C.cl;have T5:(⟨h,g,d,t,os⟩:Shared).TypeIs (.builtin "object.__class__") "getset_descriptor":=F.typeOf_object_class;have f5:=F.typeOf_object_class;have f6:=F.slot_gs_get.lookup;have f7:=F.slot_gs_set.lookup;repeat (any_goals (first|assumption|(with_reducible refine wpAny_loadPart_at hx ?_;rw[hc])|with_reducible refine PySem.W.Looks.at L1 ?_|wp_step))
 refine zfQ X C hx hc ?_;repeat (any_goals (first|assumption|wp_step))
theorem ze2{tk:Tok}{R:Result->Shared->Prop}(X:K.In h)(C:ExcCls K D)(hx:h.get? a=some o)(hc:o.cls= .ref D)(hq:R (.ok (.ret (.ref D))) ⟨h,g,d,t,os⟩)
  (hk: ∀(Q:Unit->Shared->Prop) (E:Value->Shared->Prop) (A:Around) (nameV:Value),Q () ⟨h,g,d,t,os⟩->wpAny (model prog w) A (checkBuiltinCall "BaseException.__getattribute__" ⟨[.ref a,nameV], []⟩) Q E ⟨h,g,d,t,os⟩):
  codeAny (model prog w) A (.call (.builtin "BaseException.__getattribute__") ⟨[.ref a, .str "__class__" tk], []⟩) R ⟨h,g,d,t,os⟩:=
 codeAny_call_builtin F.excAttr_ValueError.ga.plain F.entry_bexc_ga (hk _ _ _ _ (zeG X C hx hc hq))
theorem zjR{M:Model}{nameV:Value}{Q:Unit->Shared->Prop}(X:K.In h)(C:ExcCls K D)(hx:h.get? a=some o)(hc:o.cls= .ref D)(hq:Q () ⟨h,g,d,t,os⟩):
  wpAny M A (checkBuiltinCall "BaseException.__getattribute__" ⟨[.ref a,nameV], []⟩) Q E ⟨h,g,d,t,os⟩:=by
 have k1:builtinKind "BaseException.__getattribute__"=some .slot:=by decide+kernel
 have k2:splitId "BaseException.__getattribute__"=some ("BaseException","__getattribute__"):=by decide+kernel
 have L0:=vO (M:=M) hx hc;have L1:=PySem.W.looks_mroIn (M:=M) X C.mb;have k3:=F.args_bexc_ga (.ref a) nameV;simp only[checkBuiltinCall,k1,k2];refine JW ?_;unfold isInstance;repeat (any_goals (first|assumption|(with_reducible refine wpAny_loadPart_at hx ?_;rw[hc])|with_reducible refine PySem.W.Looks.at L1 ?_|wp_step))
theorem ze3{Q:Option Value->Shared->Prop}(X:K.In h)(C:ExcCls K D)(hx:h.get? a=some o)(hc:o.cls= .ref D)(hq:Q (some (.ref D)) ⟨h,g,d,t+1,os⟩):
  wpAny (model prog w) A (getAttr? (.ref a) "__class__") Q E ⟨h,g,d,t,os⟩:=by
 have L0:=vO (M:=model prog w) hx hc;have L1:=PySem.W.looks_findIn (M:=model prog w) X C.ga;have L2:=PySem.W.looks_findIn (M:=model prog w) X C.gt;have f3:=F.excAttr_ValueError.ga.bind (.ref a);have x2:(Value.builtin "BaseException.__getattribute__"==Value.builtin "object.__getattribute__")=false:=by decide+kernel
 have x1:(onTheHeap (Value.ref D) && Value.builtin "BaseException.__getattribute__"==Value.builtin "object.__getattribute__")=false:=by rw[x2];rfl
 have x0:(false && onTheHeap (Value.builtin "BaseException.__getattribute__"))=false:=rfl;unfold getAttr? getAttrBy?;repeat (any_goals (first|assumption|(with_reducible refine wpAny_loadPart_at hx ?_;rw[hc])|with_reducible refine PySem.W.Looks.at L1 ?_|with_reducible refine PySem.W.Looks.at L2 ?_|wp_step))
 refine ze2 X C hx hc ?_ (λQ E A n q=>zjR X C hx hc q);repeat (any_goals (first|assumption|wp_step))
end
theorem zkQ{D:Addr}(C:ExcCls K D):PySem.W.KitX K (.ref a) (.ref D) (λh=> ∃o vs,h.get? a=some o/\o.cls= .ref D/\o.data= .fields vs) where
 ty:=λ_ _ _ ⟨_,_,h1,h2,_⟩=>vO h1 h2
 it:=λ_ _ X _=>by
  obtain⟨cd,hc⟩:=Option.isSome_iff_exists.mp C.cls;unfold PySem.W.clsIn at hc;split at hc
  case h_2=>cases hc
  case h_1 ho=>
   intro A' Q' E' s' k q;unfold isType loadHead;exact JW (wpAny_loadPart (k _ _ (X _ _ ho)) (JX q))
 ne:=λh tp dd its n sl X htp=>by
  obtain⟨cd,hc⟩:=Option.isSome_iff_exists.mp C.cls;unfold PySem.W.clsIn at hc;refine Bool.eq_false_iff.mpr λq=> ?_;obtain rfl:D=tp:=Value.ref.inj (beq_iff_eq.mp q);split at hc
  case h_2=>cases hc
  case h_1 ho=>cases (X _ _ ho).symm.trans htp
 ca:=fun {_ _ _ _ _ s} X ⟨_,_,h1,h2,_⟩ k=>by
  obtain⟨h,g,d,t,os⟩:=s;exact ze3 X C h1 h2 k
inductive TyX (K:Fg) (H:Hp):V->Value->Prop where
 |old {x:V} {t:Value} (h:TyOf K H x t):TyX K H x t
 |exc {a D:Addr} (e:H a=some (znL a (.ref D))) (C:ExcCls K D):TyX K H (.ref a) (.ref D)
theorem vP:yV X (.builtin "isinstance") (λxs H Q=> ∃x c t cv b,xs= [x,c]/\TyX X.K H x t/\zw c cv/\PySem.W.kitOne X.K t cv=some b/\Q (.bl b) H):=by
 intro pins s σ H xs us Q I r h;obtain⟨x,c,t,cv,b,rfl,ty,rc,e,q⟩:=h;obtain⟨u,u2,rfl,r1,r2⟩:=jL r;have e2:u2=cv:=by
  cases c<;>first
   |exact r2.trans rc.symm
   |(exfalso
     obtain⟨t2,z⟩:=rc;subst z;revert e
     unfold PySem.W.kitOne PySem.W.kitCls;cases ty with
     |exc e C=>simp
     |old h=>cases h<;>simp)
 subst e2;cases ty with
 |old h=>exact zjM I r1 h e λtk=>⟨.bl b,H,I.tok tk,rfl,q⟩
 | @exc a D ea C=>
  cases (show u=Value.ref a from r1);obtain⟨p,_⟩:=(show z6 X.prog X.w H s.heap a (znL a (.ref D)) from I.hok a _ ea)
  exact PySem.W.kia_one (zkQ C) I.kIn p e (λz=>nomatch z) λtk=>⟨.bl b,H,I.tok tk,rfl,q⟩
structure ClsOk (K:Fg) (C:Addr):Prop where
 cls:(PySem.W.clsIn K C).isSome=true
 ty:PySem.W.typeIn K (.ref C)=some (.type "type")
 me:PySem.W.mroIn K C (.ref C)=some true
theorem zhe:PySem.W.kitOne K (.type "int") (.type "int")=some true:=by
 unfold PySem.W.kitOne;rw[Jg 'd']
theorem zgH:PySem.W.kitOne K (.type "int") (.type "bool")=some false:=by
 unfold PySem.W.kitOne;rw[Jf 'd'];kernel_rfl
section
variable {X:Cx}
end
section
variable {X:Cx}
theorem vQ{x:Str}{n:String}{pos:Pos}(hg:Gl X x)(hm:X.mg x=none)(hv:bootBuiltins x=some (.type n))(hn:x≠"__name__":=by decide)(hd:(x==("__debug__":Str))=false:=by decide):PE X (.Name x pos) (tC (.ty n)):=
 zmx (v:= .ty n) hg hm hv rfl hn hd
end
theorem zqS{CX:CXT}{P:Program}{w:World}{K:Fg}{mg:Str->Option Value}{base:Heap}{N:List Str}{qual:Str}{scope:Scope}{f:Addr}{cd:Value}{A:Around}{outer:List Env}{s:Shared}{H:Hp}{E:XK}:
  (xw CX P w K mg base N qual scope f cd A outer s H E).K=K:=rfl
theorem slT(h:n<=1000):(n<=sizeLine)=True:=eq_true (JE h 'd')
theorem ixL{p:Addr}(h:SqL K H p xs)(e:atI xs i=some v)(q:Q v H):vL K (.ref p) (.int i) H Q:=⟨p,xs,i,v,rfl,rfl,h,e,q⟩
theorem ixT{p:Addr}(h:SqT K H p xs)(e:atI xs i=some v)(q:Q v H):vm K (.ref p) (.int i) H Q:=⟨p,xs,i,v,rfl,rfl,h,e,q⟩
theorem vR{xs:List Int}(h0:0<=i)(h1:i<xs.length):atI (xs.map V.int) i=some (.int (xs.getD i.toNat 0)):=by
 obtain⟨k,rfl⟩:=Int.eq_ofNat_of_zero_le h0;have hk:k<xs.length:=by omega
 refine xf ?_;rw[Jh,Jb hk,JF,Jo,Jb hk];rfl
theorem yP{p:Addr}(h:H p=none)(o:HO):zk H (upd H p o):=λb u q=>by rw[zu (yZ q h)];exact q
theorem zmO(a b:Int):(qZ (.int a) (.int b)=true)=True:=eq_true rfl
theorem zmP(a b:Bool):(qZ (.bl a) (.bl b)=true)=True:=eq_true rfl
theorem zmQ(a b:Str):(qZ (.str a) (.str b)=true)=True:=eq_true rfl
theorem zmR(b:Int):(qZ .non (.int b)=true)=True:=eq_true rfl
theorem zmS(a:Int):(qZ (.int a) .non=true)=True:=eq_true rfl
section
variable {X:Cx}
end
theorem uD{H':Hp}{p:Addr}(s:zk H H')(h:H p=none):zk H (upd H' p o):=λb u q=>by
 rw[zu (yZ q h)];exact s b u q
theorem zk.sqT{H':Hp}(e:zk H H')(h:SqT K H a xs):SqT K H' a xs:=by
 rcases h with(h|⟨o,h⟩)|h
 ·exact .inl (.inl (e _ _ h))
 ·exact .inl (.inr ⟨o,e _ _ h⟩)
 ·exact .inr h
theorem zhg:PySem.W.kitOne K (.type "tuple") (.type "tuple")=some true:=by
 unfold PySem.W.kitOne;rw[Jg 'd']
def zqT(t:TS):TS:=λD σ H=> ∃R:St->Hp->Prop,t {D with nx:=R} σ H/\ ∀σ' H',R σ' H'->D.nx σ' H'
theorem wJ{st:Stmt}{t:TS}(h:PS X st t):PS X st (zqT t):=by
 intro pins s σ H D I q;obtain⟨R,q1,q2⟩:=q;refine thn (h pins s σ H {D with nx:=R} I q1) λf s1 z=> ?_;cases f with
 |next=>
  obtain⟨σ',H',I',z⟩:=z;exact⟨σ',H',I',q2 _ _ z⟩
 |ret v=>exact z
 |brk=>exact z
 |cont=>exact z
section
variable {X:Cx} {Ek:St->XK} {k:Nat} {f:Addr} {fd:FuncData} {ps:List Str} {sp:Sp} {x:Str} {p pos:Pos} {e:Expr} {es:List Expr} {t:TA}
end
section
variable {X:Cx} {K:Fg}
end
def SL(cs:List Nat):Str:=⟨cs.toArray⟩
theorem zqa(z:Str):z=SL z.cps.toList:=by cases z;rfl
theorem vn(cs:List Nat):(SL cs).length=cs.length:=by show cs.toArray.size=_;simp
theorem zox(a b:List Nat):SL a++SL b=SL (a++b):=by
 show (⟨a.toArray++b.toArray⟩:Str)=⟨(a++b).toArray⟩;simp
theorem wK(a b:List Nat):(SL a=SL b)=(a=b):=by
 refine propext ⟨λh=> ?_,λh=>by rw[h]⟩
 have:=congrArg (λz:Str=>z.cps.toList) h;exact this
section
variable {X:Cx} {tg:Expr}
end
def dg(n:Nat):List Nat:=(Nat.toDigits 10 n).map Char.toNat
def sI(i:Int):List Nat:=if i<0 then 45::dg (-i).toNat else dg i.toNat
section
variable {X:Cx}
theorem zI{x:Str}{cs:List Nat}{j pos}(e:x=SL cs):PE X (.Constant (.str x) j pos) (tC (.str (SL cs))):=e ▸ xG
theorem zhh:OpR X (binaryOp .Add) (λx y H Q=> ∃a b,x= .str (SL a)/\y= .str (SL b)/\a.length+b.length<=sizeLine/\Q (.str (SL (a++b))) H):=by
 intro pins s σ H x y v u Q I rx ry h;obtain⟨a,b,rfl,rfl,hz,q⟩:=h;exact zia pins s σ H _ _ v u Q I rx ry ⟨_,_,rfl,rfl,by rw[vn,vn];exact hz,by rw[zox];exact q⟩
theorem zqb:IxR X (λx y H Q=> ∃cs i c,x= .str (SL cs)/\y= .int i/\cs.length<=sizeLine/\atI cs i=some c/\Q (.str (SL [c])) H):=by
 intro value slice pins s σ H x y v u Q I rx ry h hs;obtain⟨cs,i,c,rfl,rfl,hz,he,q⟩:=h;exact zoo value slice pins s σ H _ _ v u Q I rx ry ⟨_,i,c,rfl,rfl,by rw[vn];exact hz,he,q⟩ hs
end
def jn(sep:List Nat):List (List Nat)->List Nat
 | []=> []
 | [x]=>x
 |x::y::r=>x++sep++jn sep (y::r)
def zf(cs:List Nat)(n:Nat):List Nat:=List.replicate (n - cs.length) 48++cs
section
variable {X:Cx}
end
theorem zhi:PySem.W.kitOne K (.type "str") (.type "str")=some true:=by
 unfold PySem.W.kitOne;rw[Jg 'd']
open PySem PySem.NumText
theorem jY{xs:List Int}{lo hi:Int}(h: ∀x∈xs,lo<=x/\x<=hi)(h0:0<=i)(h1:i<xs.length):lo<=xs.getD i.toNat 0/\xs.getD i.toNat 0<=hi:=by
 have hl:i.toNat<xs.length:=by omega
 rw[Jo,Jb hl];exact h _ (List.getElem_mem hl)
section
variable {prog:Program} {w:World} {A:Around} {E:Value->Shared->Prop}
end
section
variable {X:Cx} {pos:Pos}
end
def PEt(X:Cx)(e:Expr)(t:TE):Prop:=
 ∀(pins:List (Addr×Obj)) (s:Shared) (σ:St) (H:Hp) (Q:VK),0<s.toks->Inv X pins σ H s->t σ H Q->wpAny (model X.prog X.w) X.A (eval e X.env) (EP X pins σ Q) X.xe s
def PAt(X:Cx)(es:List Expr)(t:TA):Prop:=
 ∀(pos:Pos) (pins:List (Addr×Obj)) (s:Shared) (σ:St) (H:Hp) (Q:List V->Hp->Prop),0<s.toks->Inv X pins σ H s->t σ H Q->wpAny (model X.prog X.w) X.A (spliced (backTo pos (starEach es X.env))) (AP X pins σ Q) X.xe s
def zqU(X:Cx)(st:List Stmt)(t:TS):Prop:=
 ∀(pins:List (Addr×Obj)) (s:Shared) (σ:St) (H:Hp) (D:Ends),0<s.toks->Inv X pins σ H s->t D σ H->wpAny (model X.prog X.w) X.A (execs st X.env) (SP X pins D) X.xe s
section
variable {X:Cx} {a b e o:Expr} {es:List Expr} {te ta tb to:TE} {t:TA} {pos apos cpos:Pos}
end
section
variable {prog:Program} {w:World} {A:Around} {R:Result->Shared->Prop} {s:Shared}
abbrev NoE:Value->Shared->Prop:=λ_ _=>False
theorem zhj{elt target iter:Expr}{ifs:List Expr}{scope:Scope}{pos:Pos}{it acc:Value}{env:Env}(I:Nat->Shared->Prop)
  (turn: ∀n s,I n s->wpAny (model prog w) A (pyNext it) (λr s₁=>match r with
   |none=>R (.ok .next) s₁
   |some v=>wpAny (model prog w) A (letOwnedTupleGo target it v) (λ_ s₁'=>wpAny (model prog w) A (assign target env v) (λ_ s₂=>
     wpAny (model prog w) A (forIn ifs true λc r=>if r=true then do let ok<-isTrue c env (eval c env);pure (ForInStep.yield ok) else pure (ForInStep.yield r)) (λok s₃=>
      if ok=true then wpAny (model prog w) A (eval elt env) (λx s₄=>
       wpAny (model prog w) A (call (.builtin "list.append") [acc,x]) (λ_ s₅=> ∃m,m<n/\I m s₅) NoE s₄) NoE s₃
      else∃m,m<n/\I m s₃) NoE s₂) NoE s₁') NoE s₁) NoE s)
  (n:Nat) (h:I n s):
  codeAny (model prog w) A (.compLoop (.ListComp elt [⟨target,iter,ifs,0⟩] scope pos) 0 it acc env) R s:=by
 refine codeAny_loop rfl I (λn s hI=> ?_) n h;show wpAny _ A ((compTurn (.ListComp elt [⟨target,iter,ifs,0⟩] scope pos) 0 it acc env).onRaise (λx=>do noteFrame x env;theTreesLotGoes x)) _ _ s;refine wpAny_noted ?_;rw[compTurn_list];refine JW (wpAny_standAt (JW (wpAny_mono (turn n s hI) (λr s₁ h₁=> ?_) λ_ _ h'=>h'.elim)));cases r with
 |none=>exact JX h₁
 |some v=>
  refine JW (wpAny_mono h₁ (λ_ s₁' h₁'=> ?_) λ_ _ h'=>h'.elim);refine JW (wpAny_mono h₁' (λ_ s₂ h₂=>JW (wpAny_mono h₂ (λok s₃ h₃=> ?_) λ_ _ h'=>h'.elim)) λ_ _ h'=>h'.elim);cases ok with
  |false=>exact JX ⟨rfl,h₃⟩
  |true=>
   exact JW (JW (wpAny_mono h₃ (λx s₄ h₄=>JW (wpAny_mono h₄ (λ_ s₅ h₅=>JX (JX ⟨rfl,h₅⟩)) λ_ _ h'=>h'.elim)) λ_ _ h'=>h'.elim))
end
structure CA where
 cl:List (Str×Addr)
 C:Addr
 s:Shared
 H:Hp
 fp:List Addr
def Cx.comp(X:Cx)(scope:Scope)(N:List Str)(a:CA):Cx:=
 {X with N:=N,s₀:=a.s,H₀:=a.H,env:=compEnvC scope a.cl a.C X.env,outer:=X.stack,ex:=a.fp,fn:=λ_=>false,pn:= [],xe:=NoE}
theorem zoy{a:CA}:(X.comp scope N a).K=X.K:=rfl
theorem wL:Lv X (λ_ _ _ _=>False):=⟨λ_ _ _ _ _ _ _ _ _ _ q=>q.elim⟩
def wM(outer:List (Str×NameKind))(oN:List Str)(inner:List (Str×NameKind))(N:List Str)(n:Nat)(js:List Nat):Bool:=
 N.length==n+js.length &&
 (inner.all λp=>p.2 != .cell && (p.2 != .local||inner.lookup p.1==some .local) && (p.2 != .free||(inner.lookup p.1==some .free && (outer.lookup p.1==some .cell||outer.lookup p.1==some .free)))) &&
 (List.range js.length).all λk=>match js[k]?,N[n+k]? with
  |some j,some x=>oN[j]? ==some x && (outer.lookup x==some .cell||outer.lookup x==some .free) && inner.lookup x==some .free
  |_,_=>false
def xg(σ:St)(n:Nat)(js:List Nat):St:=List.replicate n none++js.map λj=>(σ[j]?).join
def Sub(σ τ:St):Prop:=σ.length=τ.length/\ ∀(i:Nat) v,σ[i]? =some (some v)->τ[i]? =some (some v)
theorem zmT:Sub [] []=True:=eq_true ⟨rfl,λi v h=>by simp at h⟩
theorem zkR{τ:St}{x:Option V}:Sub (none::σ) (x::τ)=Sub σ τ:=by
 refine propext ⟨λh=>⟨by simpa using h.1,λi v e=>by simpa using h.2 (i+1) v (by simpa using e)⟩,λh=>⟨by simpa using h.1,λi v e=> ?_⟩⟩;cases i with
 |zero=>simp at e
 |succ i=>simpa using h.2 i v (by simpa using e)
theorem zkS{τ:St}:Sub (some x::σ) (some x::τ)=Sub σ τ:=by
 refine propext ⟨λh=>⟨by simpa using h.1,λi v e=>by simpa using h.2 (i+1) v (by simpa using e)⟩,λh=>⟨by simpa using h.1,λi v e=> ?_⟩⟩;cases i with
 |zero=>simpa using e
 |succ i=>simpa using h.2 i v (by simpa using e)
theorem zij(h: ∀p∈scope.names,p.2=NameKind.free-> ∃c,env.cells.lookup p.1=some c):
  ∃cl,closureFor scope env=pure cl/\(∀x c,cl.lookup x=some c->env.cells.lookup x=some c)/\ ∀p∈scope.names,p.2=NameKind.free-> ∃c,cl.lookup p.1=some c:=by
 have go: ∀(names:List (Str×NameKind)) (acc:List (Str×Addr)),(∀p∈names,p.2=NameKind.free-> ∃c,env.cells.lookup p.1=some c)->(∀x c,acc.lookup x=some c->env.cells.lookup x=some c)->
   ∃cl,(forIn names acc (λx r=>match x with|(name,kind)=>if (kind==NameKind.free)=true then do let c<-cellOf env name;pure (ForInStep.yield ((name,c)::r)) else pure (ForInStep.yield r)):Sem (List (Str×Addr)))=pure cl/\
    (∀x c,cl.lookup x=some c->env.cells.lookup x=some c)/\(∀p∈names,p.2=NameKind.free-> ∃c,cl.lookup p.1=some c)/\ ∀x,(∃c,acc.lookup x=some c)-> ∃c,cl.lookup x=some c:=by
  intro names;induction names with
  |nil=>intro acc _ ha;exact⟨acc,rfl,ha,λp hp=>absurd hp (by simp),λ_ q=>q⟩
  |cons p r ih=>
   intro acc hp ha;obtain⟨nm,k⟩:=p;by_cases hk:k=NameKind.free
   ·subst hk;obtain⟨c,hc⟩:=hp (nm, .free) Jq rfl;have ec:cellOf env nm=pure c:=by unfold cellOf;rw[hc]
    have ha': ∀x c',((nm,c)::acc).lookup x=some c'->env.cells.lookup x=some c':=λx c' e=>by
     rw[List.lookup_cons] at e;cases z:x==nm with
     |true=>rw[z] at e;cases e;rw[eq_of_beq z];exact hc
     |false=>rw[z] at e;exact ha x c' e
    obtain⟨cl,e,q1,q2,q3⟩:=ih ((nm,c)::acc) (λp hp'=>hp p (Jl _ hp')) ha';refine⟨cl,?_,q1,λp hp' hf=> ?_,λx hx=>q3 x ?_⟩
    ·rw[List.forIn_cons];simp only[beq_self_eq_true,if_true,ec];exact e
    ·rcases JD.mp hp' with rfl|hp'
     ·exact q3 nm ⟨c,by rw[List.lookup_cons,beq_self_eq_true]⟩
     ·exact q2 p hp' hf
    ·rw[List.lookup_cons];cases z:x==nm with
     |true=>exact⟨c,rfl⟩
     |false=>exact hx
   ·obtain⟨cl,e,q1,q2,q3⟩:=ih acc (λp hp'=>hp p (Jl _ hp')) ha;refine⟨cl,?_,q1,λp hp' hf=> ?_,q3⟩
    ·rw[List.forIn_cons];have z:(k==NameKind.free)=false:=by simpa using hk
     simp only[z,Js,if_false];exact e
    ·rcases JD.mp hp' with rfl|hp'
     ·exact absurd hf hk
     ·exact q2 p hp' hf
 obtain⟨cl,e,q1,q2,_⟩:=go scope.names [] h (λx c e=>by simp at e);refine⟨cl,?_,q1,q2⟩;unfold closureFor;simp only[pure_bind,bind_pure];exact e
theorem vS{outer:List (Str×NameKind)}{oN:List Str}{inner:List (Str×NameKind)}{js:List Nat}(h:wM outer oN inner N n js=true):
  N.length=n+js.length/\(∀p∈inner,p.2≠NameKind.cell)/\(∀p∈inner,p.2=NameKind.local->inner.lookup p.1=some .local)/\
  (∀p∈inner,p.2=NameKind.free->inner.lookup p.1=some .free/\(outer.lookup p.1=some .cell\/outer.lookup p.1=some .free))/\
  ∀k j x,js[k]? =some j->N[n+k]? =some x->oN[j]? =some x/\(outer.lookup x=some .cell\/outer.lookup x=some .free)/\inner.lookup x=some .free:=by
 unfold wM at h;simp only[Bool.and_eq_true,beq_iff_eq,List.all_eq_true,List.mem_range] at h;obtain⟨⟨h1,h2⟩,h3⟩:=h;refine⟨h1,λp hp=>by simpa using (h2 p hp).1.1,λp hp e=> ?_,λp hp e=> ?_,λk j x e1 e2=> ?_⟩
 ·have z:=(h2 p hp).1.2;rw[e] at z;simpa using z
 ·have z:=(h2 p hp).2;rw[e] at z;simpa using z
 ·have z:=h3 k (Jc.mp e1).1;rw[e1,e2] at z;simpa [and_assoc] using z
theorem zc7{x:Str}:(relabel scope env).names.lookup x=(scope.names.lookup x).map (λk=>if (k==NameKind.free && env.scope.kind== .function && env.kindOf x==some .cell)=true then NameKind.cell else k):=by
 show (scope.names.map λ(n,k)=>if (k==NameKind.free && env.scope.kind== .function && env.kindOf n==some .cell)=true then (n,NameKind.cell) else (n,k)).lookup x=_;induction scope.names with
 |nil=>rfl
 |cons p r ih=>
  obtain⟨nm,k⟩:=p;rw[JA];dsimp only;cases z:x==nm with
  |true=>
   obtain rfl:=eq_of_beq z;by_cases c:(k==NameKind.free && env.scope.kind== .function && env.kindOf x==some .cell)=true
   ·simp only[c,if_true,List.lookup_cons,z,Option.map_some]
   ·rw[Jf c];simp only[List.lookup_cons,z,Option.map_some,Jf c]
  |false=>
   by_cases c:(k==NameKind.free && env.scope.kind== .function && env.kindOf nm==some .cell)=true
   ·rw[Jg c];simp only[List.lookup_cons,z];exact ih
   ·rw[Jf c];simp only[List.lookup_cons,z];exact ih
section
variable {X:Cx} {scope:Scope} {N:List Str} {n:Nat} {js:List Nat} {pins:List (Addr×Obj)} {σ:St} {H:Hp} {s₃:Shared} {cl:List (Str×Addr)} {fp:List Addr}
theorem zkT(cap:wM X.env.scope.names X.N scope.names N n js=true)(hkind:scope.kind= .function)(I:Inv X pins σ H s₃)(hc1: ∀x c,cl.lookup x=some c->X.env.cells.lookup x=some c)
  (hc2: ∀p∈scope.names,p.2=NameKind.free-> ∃c,cl.lookup p.1=some c) (hf: ∀b∈fp,qU X pins H b) (hlt: ∀b∈fp,b<s₃.heap.objs.size) {h₁:Heap} {t:Nat} {m:Str->Option Value}
  (hns:h₁.Ns s₃.heap.objs.size m) (hk: ∀b o,s₃.heap.get? b=some o->h₁.get? b=some o):
  Inv (X.comp scope N ⟨cl,s₃.heap.objs.size,s₃,H,fp⟩) [] (xg σ n js) H {s₃ with heap:=h₁,toks:=t}:=by
 obtain⟨k1,k2,k3,k4,k5⟩:=vS cap;have kf: ∀x,((relabel scope X.env).names.lookup x=some .cell\/(relabel scope X.env).names.lookup x=some .free)->scope.names.lookup x=some .free:=λx h=>by
  rw[zc7] at h;cases e:scope.names.lookup x with
  |none=>rw[e] at h;simp at h
  |some k=>
   rw[e,Option.map_some] at h;cases k with
   |free=>rfl
   |cell=>exact absurd rfl (k2 (x, .cell) (PySem.mem_of_lookup e))
   | «local» =>simp at h
   |_=>simp at h
 have bf: ∀x,scope.names.lookup x=some .free->(relabel scope X.env).names.lookup x=some .cell\/(relabel scope X.env).names.lookup x=some .free:=λx h=>by
  rw[zc7,h,Option.map_some];split
  ·exact .inl rfl
  ·exact .inr rfl
 have isC: ∀c v,s₃.heap.IsCell c v->h₁.IsCell c v:=λc v ⟨o,ho,r⟩=>⟨o,hk _ _ ho,r⟩
 refine⟨⟨I.ok.mod,hkind,I.ok.glob,I.ok.blt,Je _,λx y c e1 e2=>I.ok.inj x y c (hc1 x c e1) (hc1 y c e2),λx h=>hc2 (x, .free) (PySem.mem_of_lookup (kf x h)) rfl,λx c h=>absurd h Ju,I.ok.hd,I.ok.frames, .inl rfl,
   λb hb=>⟨JK (hlt b hb),λx c e=>(hf b hb).2.2.2.2.1 x c (hc1 x c e)⟩,I.bs,JE I.ok.bsz I.sz,λb o e hb=> ?_,λb hb hz=> ?_,I.stack,I.stkFree⟩,
  rfl,I.bare,Un.kept hk,⟨m,hns,λi x v e1 e2 e3=> ?_⟩,λx c e=> ?_,I.hok.fresh (Je _),λx c e=>I.freeC x c (hc1 x c e),λp hp=>absurd hp (by simp [Cx.comp]),I.hok.kept hk,?_⟩
 ·rcases (hf b hb).2.2.2.1 with z|z
  ·exact I.ok.noex b o e z
  ·exact absurd (Jy (Qb e) (JE I.ok.bsz z)) (Nat.lt_irrefl _)
 ·rcases JD.mp (I.stkSub b hz) with z|z
  ·exact(hf b hb).2.1 z
  ·exact(hf b hb).2.2.1 z
 ·have e2':(xg σ n js)[i]? =some (some v):=e2;unfold xg at e2';by_cases hi:i<n
  ·rw[List.getElem?_append_left (by simpa using hi),List.getElem?_replicate,Jg hi] at e2';cases e2'
  ·rw[List.getElem?_append_right (by simpa using hi),List.length_replicate,Jh] at e2';cases ej:js[i - n]? with
   |none=>rw[ej] at e2';cases e2'
   |some j=>
    rw[ej,Option.map_some] at e2';have e4:(σ[j]?).join=some v:=JV e2';have e5:σ[j]? =some (some v):=by
     cases q:σ[j]? with
     |none=>rw[q] at e4;cases e4
     |some w=>rw[q] at e4;rw[show w=some v from e4]
    have e1':N[n+(i - n)]? =some x:=by rw[show n+(i - n)=i by omega];exact e1
    obtain⟨c1,c2,c3⟩:=k5 (i - n) j x ej e1';obtain⟨m',hn',hl'⟩:=I.loc;obtain⟨u,ru,lk⟩:=hl' j x v c1 e5 (.inr c2);refine⟨u,ru,?_⟩;rcases lk with⟨hk',_⟩|⟨_,c,hc,hcell⟩
    ·have hk'':X.env.scope.names.lookup x=some .local:=hk';rcases c2 with c2|c2<;>(rw[hk''] at c2;cases c2)
    ·obtain⟨c',hc'⟩:=hc2 (x, .free) (PySem.mem_of_lookup c3) rfl
     have:=hc1 x c' hc';rw[hc] at this;cases this;exact .inr ⟨bf x c3,c,hc',isC _ _ hcell⟩
 ·obtain⟨v,z⟩:=I.cell x c (hc1 x c e);exact⟨v,isC _ _ z⟩
 ·show (xg σ n js).length=N.length;unfold xg;rw[Jj,List.length_replicate,Ja,k1]
end
def PIf(X:Cx)(ifs:List Expr)(t:TT):Prop:=
 ∀(pins:List (Addr×Obj)) (s:Shared) (σ:St) (H:Hp) (Q:Bool->Hp->Prop),Inv X pins σ H s->t σ H Q->
  wpAny (model X.prog X.w) X.A (forIn ifs true λc r=>if r=true then do let ok<-isTrue c X.env (eval c X.env);pure (ForInStep.yield ok) else pure (ForInStep.yield r)) (TP X pins σ Q) X.xe s
def jZ:TT:=λ_ H Q=>Q true H
theorem xL:PIf X [] jZ:=λ_ _ _ H _ I h=>wpAny_tests_nil ⟨H,I,h⟩
theorem wN{c:Expr}{t:TT}(hc:PT X c t):PIf X [c] t:=λpins s σ H Q I h=>wpAny_tests_one (hc pins s σ H Q I h)
def vT(J:It)(σ0:St)(g:TG)(tc:TT)(te:TE)(l:Addr)(Q:VK)(H1:Hp):Prop:=
 ∃W:Nat->Nat->List V->Hp->Prop,(∃m,W 0 m [] (upd H1 l (.lst [])))/\ ∀i m xs H,W i m xs H->H l=some (.lst xs)/\xs.length<sizeLine/\
  ((J.stop i H/\Q (.ref l) H)\/(J.go i H/\ ∀x H',J.yld i H x H'->g x σ0 H' λσ2 H2=>Sub σ0 σ2/\tc σ2 H2 λb H3=>
   if b=true then te σ2 H3 λv H4=>H4 l=some (.lst xs)/\ ∃m',m'<m/\W (i+1) m' (xs++ [v]) (upd H4 l (.lst (xs++ [v]))) else∃m',m'<m/\W (i+1) m' xs H3))
section
variable {X:Cx} {tg elt iter:Expr} {ifs:List Expr} {scope:Scope} {pos:Pos} {N:List Str} {n:Nat} {js:List Nat} {g:CA->TG} {tc:CA->TT} {te:CA->TE}
theorem zf3{pins:List (Addr×Obj)}{σ:St}{H₁:Hp}{s₂:Shared}{E:Value->Shared->Prop}(cap:wM X.env.scope.names X.N scope.names N n js=true)(hkind:scope.kind= .function)(hcalm:X.calm=true)
  (hg: ∀a,PG (X.comp scope N a) tg (g a)) (hc: ∀a,PIf (X.comp scope N a) ifs (tc a)) (he: ∀a,PE (X.comp scope N a) elt (te a))
  (I:Inv X pins σ H₁ s₂) {it:Addr} {fp:List Addr} {tn:Nat->Heap->Prop} {J:It} (T:Turn X.prog X.w X.K tg J fp it tn) (h0:tn 0 s₂.heap) (hf: ∀b∈fp,qU X pins H₁ b)
  {cl:List (Str×Addr)} (hc1: ∀x c,cl.lookup x=some c->X.env.cells.lookup x=some c) (hc2: ∀p∈scope.names,p.2=NameKind.free-> ∃c,cl.lookup p.1=some c)
  {Q:VK} (hq: ∀l,H₁ l=none-> ∀a,vT J (xg σ n js) (g a) (tc a) (te a) l Q H₁)
  {RR:Value->Addr->Result->Shared->Prop}
  (hRR: ∀l C H' s' m,Inv X pins σ H' s'->s'.heap.Ns C m->H' C=none->C≠X.env.locals->X.s₀.heap.objs.size<=C->(∀x c,X.env.cells.lookup x=some c->c≠C)->(∀p∈X.pn++pins,p.1≠C)->C∉X.fs->Q (.ref l) H'->RR (.ref l) C (.ok .next) s'):
  wpAny (model X.prog X.w) X.A (newList []) (λacc s₃=>wpAny (model X.prog X.w) X.A (newFunctionEnv scope X.env.globals cl [] X.env.qual none .none (some X.env)) (λcenv s₄=>
   codeAny (model X.prog X.w) X.A (.compStart (.ListComp elt [⟨tg,iter,ifs,0⟩] scope pos) 0 (.ref it) acc {cenv with scope:=relabel scope X.env}) (RR acc cenv.locals) s₄) E s₃) E s₂:=by
 obtain⟨k1,k2,k3,k4,k5⟩:=vS cap;refine wpAny_newObj_type (wpAny_newFunctionEnv k2 (by intro y hy;simp at hy) (λh₁ hns₁ hsb₁=> ?_) hkind);dsimp only at hns₁ hsb₁ ⊢;obtain⟨s3,hs3⟩: ∃s3:Shared,s3={s₂ with heap:=s₂.heap.push {cls:= .type "list",dict:=none,data:= .seq ([]:List Value).toArray} }:=⟨_,rfl⟩
 have eh:s₂.heap.push {cls:= .type "list",dict:=none,data:= .seq ([]:List Value).toArray}=s3.heap:=by rw[hs3]
 rw[eh] at hns₁ hsb₁ ⊢;have kp3: ∀b o,s₂.heap.get? b=some o->s3.heap.get? b=some o:=λb o e=>by rw[<-eh];exact Qa _ e
 have hl0:H₁ s₂.heap.objs.size=none:=I.hok.fresh (Je _);have I3:Inv X pins σ (upd H₁ s₂.heap.objs.size (.lst [])) s3:=by
  rw[hs3];exact I.laid (t':=s₂.toks) (λb u e=>Qa _ e) (Je _) ⟨Jv _, [],0, .nil,Qc _ rfl⟩
 have fpo: ∀b∈fp,∃o,s₂.heap.get? b=some o:=λb hb=>let ⟨o,e,_⟩:=T.obj _ _ h0 b hb;⟨o,e⟩;have fpl: ∀b∈fp,b≠s₂.heap.objs.size:=λb hb z=>let ⟨o,e⟩:=fpo b hb;Nat.lt_irrefl _ (z ▸ Qb e);have hf3: ∀b∈fp,qU X pins (upd H₁ s₂.heap.objs.size (.lst [])) b:=λb hb=>⟨by rw[zu (fpl b hb)];exact(hf b hb).1,(hf b hb).2⟩
 have hlt3: ∀b∈fp,b<s3.heap.objs.size:=λb hb=>let ⟨o,e⟩:=fpo b hb;Qb (kp3 b o e);have kp1: ∀b o,s3.heap.get? b=some o->h₁.get? b=some o:=λb o e=>hsb₁.extBut b o (JK (Qb e)) (Qa _ e);have IC:=zkT (t:=s3.toks) cap hkind I3 hc1 hc2 hf3 hlt3 hns₁ kp1;have hCl:X.env.locals<s3.heap.objs.size:=I3.lt;obtain⟨a,ha⟩: ∃a:CA,a=⟨cl,s3.heap.objs.size,s3,upd H₁ s₂.heap.objs.size (.lst []),fp⟩:=⟨_,rfl⟩
 rw[<-ha] at IC;have aC:a.C=s3.heap.objs.size:=by rw[ha]
 obtain⟨W,⟨m0,w0⟩,turn⟩:=hq _ hl0 a;have tn1:tn 0 h₁:=T.keep _ _ _ h0 λb _ o e=>kp1 b o (kp3 b o e);have stat: ∀{H':Hp},(∀b∈fp,H' b=none)-> ∀b∈fp,qU (X.comp scope N a) [] H' b:=fun {H'} hn b hb=>
  ⟨hn b hb,by show b≠a.C;rw[aC];exact JK (hlt3 b hb),λhz=>by
    rcases JD.mp (I3.stkSub b hz) with z|z
    ·exact(hf b hb).2.1 z
    ·exact(hf b hb).2.2.1 z, .inl (by show b∈a.fp;rw[ha];exact hb),λx c e=>(hf b hb).2.2.2.2.1 x c (hc1 x c (by rw[ha] at e;exact e)),λp hp=>absurd hp (by simp [Cx.comp])⟩
 have loop: ∀s4:Shared,s4={s3 with heap:=h₁,toks:=s3.toks}->
   codeAny (model X.prog X.w) X.A (.compLoop (.ListComp elt [⟨tg,iter,ifs,0⟩] scope pos) 0 (.ref it) (.ref s₂.heap.objs.size) (X.comp scope N a).env) (RR (.ref s₂.heap.objs.size) s3.heap.objs.size) s4:=by
  rintro s4 rfl;refine zhj (λk s'=> ∃i xs H',Inv (X.comp scope N a) [] (xg σ n js) H' s'/\tn i s'.heap/\(∀b∈fp,H' b=none)/\W i k xs H') ?_ m0 ⟨0, [],_,IC,tn1,λb hb=>(hf3 b hb).1,w0⟩;rintro k s5 ⟨i,xs,H5,I5,t5,f5,w5⟩;obtain⟨hl5,hz5,alt⟩:=turn i k xs H5 w5;rcases alt with⟨stop,qn⟩|⟨go,step⟩
  ·refine thn (T.done (X.comp scope N a) rfl rfl rfl hcalm i [] s5 _ H5 NoE I5 (stat f5) t5 stop) λr s6 ⟨hr,I6⟩=> ?_;subst hr;obtain⟨m6,hn6,_⟩:=I6.loc;have hn6':s6.heap.Ns s3.heap.objs.size m6:=by rw[<-aC];exact hn6
   have u6:Un (frs X.stack) fp (upd H₁ s₂.heap.objs.size (.lst [])) H5 s3.heap s6.heap:=by
    have z:=I6.base;rw[ha] at z;exact z
   have os6:s6.os=s3.os:=by
    have z:=I6.os;rw[ha] at z;exact z
   have I7:Inv X pins σ H5 s6:=I3.call' os6 u6 I6.hok I6.bare λb hb=>⟨(hf b hb).2.2.2.1,(hf b hb).2.1,(hf b hb).2.2.2.2.1,(hf b hb).2.2.2.2.2⟩
   refine hRR _ _ H5 s6 m6 I7 hn6' (by have z:=I6.free;rw[show (X.comp scope N a).env.locals=s3.heap.objs.size from aC] at z;exact z) (Nat.ne_of_gt hCl) I3.sz (λx c e z=> ?_) (λp hp z=> ?_) (I3.nofs (Je _)) qn
   ·obtain⟨v,q⟩:=I3.cell x c e;exact Nat.lt_irrefl _ (z ▸ q.lt)
   ·exact Nat.lt_irrefl _ (z ▸ Qb (I3.pin p hp).1)
  ·refine thn (T.item (X.comp scope N a) rfl rfl rfl hcalm i [] s5 _ H5 NoE I5 (stat f5) t5 go) λr s6 ⟨u,hr,h6⟩=> ?_;subst hr;refine thn h6 λ_ s7 ⟨x,H7,I7,r7,y7,t7,f7⟩=> ?_;have I7':=I7.pinned (stat f7) (T.obj _ _ t7);rw[List.nil_append] at I7';refine thn (hg a _ s7 _ H7 x u _ I7' r7 (step x H7 y7)) λ_ s8 ⟨σ8,H8,I8,sub8,q8⟩=> ?_;refine thn (hc a _ s8 σ8 H8 _ I8 q8) λok s9 ⟨H9,I9,q9⟩=> ?_;have back: ∀{σ':St} {H':Hp} {s':Shared},Inv (X.comp scope N a) (vJ fp s7.heap) σ' H' s'->Sub (xg σ n js) σ'->Inv (X.comp scope N a) [] (xg σ n js) H' s'/\tn (i+1) s'.heap/\ ∀b∈fp,H' b=none:=fun {σ' H' s'} I' sb=>by
    refine⟨(I'.pins_of λp hp=>absurd hp (by simp)).weak sb.1 sb.2,T.keep _ _ _ t7 λb hb o e=>(I'.pin (b,o) (List.mem_append_right _ (uq hb e))).1,λb hb=> ?_⟩;obtain⟨o,e,d⟩:=T.obj _ _ t7 b hb;exact(I'.pin (b,o) (List.mem_append_right _ (uq hb e))).2.1
   cases ok with
   |false=>
    obtain⟨m',lt,w'⟩:=q9;obtain⟨b1,b2,b3⟩:=back I9 sub8;exact⟨m',lt,i+1,xs,H9,b1,b2,b3,w'⟩
   |true=>
    refine thn (he a _ s9 σ8 H9 _ I9 q9) λy s10 ⟨v,H10,I10,r10,hl10,m',lt,w'⟩=> ?_;refine thn (qq (X:=X.comp scope N a) _ s10 σ8 H10 (.ref s₂.heap.objs.size) [v] _ [y] (λ_ H'=>H'=upd H10 s₂.heap.objs.size (.lst (xs++ [v]))) I10 rfl (.cons r10 .nil) ⟨_,xs,v,rfl,rfl,hl10,hz5,rfl⟩) λ_ s11 ⟨_,H11,I11,_,e11⟩=> ?_;subst e11;obtain⟨b1,b2,b3⟩:=back I11 sub8;exact⟨m',lt,i+1,_,_,b1,b2,b3,w'⟩
 have eE:{newEnv scope s3.heap.objs.size X.env.globals cl X.env.qual none Value.none (some X.env) builtinsNs with scope:=relabel scope X.env}=(X.comp scope N a).env:=by rw[ha];rfl
 have lp:=loop _ rfl;rw[<-eE] at lp;have sf:=T.self X.A 0 {s3 with heap:=h₁,toks:=s3.toks} (λit' s'=>codeAny (model X.prog X.w) X.A (.compLoop (.ListComp elt [⟨tg,iter,ifs,0⟩] scope pos) 0 it' (.ref s₂.heap.objs.size) {newEnv scope s3.heap.objs.size X.env.globals cl X.env.qual none Value.none (some X.env) builtinsNs with scope:=relabel scope X.env}) (RR (.ref s₂.heap.objs.size) s3.heap.objs.size) s')
  (notedBy (model X.prog X.w) X.A {newEnv scope s3.heap.objs.size X.env.globals cl X.env.qual none Value.none (some X.env) builtinsNs with scope:=relabel scope X.env} λx s'=>RR (.ref s₂.heap.objs.size) s3.heap.objs.size (.error x) s') tn1 lp
 have fin:=codeAny_compStart_list lp sf;rw[hs3] at fin ⊢;exact fin
def qG(n:Nat)(js:List Nat)(wi:TI)(g:CA->TG)(tc:CA->TT)(te:CA->TE):TE:=λσ H Q=>wi σ H λJ H1=> ∀l,H1 l=none-> ∀a:CA,vT J (xg σ n js) (g a) (tc a) (te a) l Q H1
theorem zdW(cap:wM X.env.scope.names X.N scope.names N n js=true)(I:Inv X pins σ H s):
  ∃cl,closureFor scope X.env=pure cl/\(∀x c,cl.lookup x=some c->X.env.cells.lookup x=some c)/\ ∀p∈scope.names,p.2=NameKind.free-> ∃c,cl.lookup p.1=some c:=
 zij λp hp e=>I.ok.has p.1 ((vS cap).2.2.2.1 p hp e).2
theorem xB(cap:wM X.env.scope.names X.N scope.names N n js=true)(hkind:scope.kind= .function)(hcalm:X.calm=true)(hi:PI X tg iter wi)
  (hg: ∀a,PG (X.comp scope N a) tg (g a)) (hc: ∀a,PIf (X.comp scope N a) ifs (tc a)) (he: ∀a,PE (X.comp scope N a) elt (te a))
  (hs: ∀x,foldedSetIterable iter X.env x=pure x:=by intro _;rfl):PE X (.ListComp elt [⟨tg,iter,ifs,0⟩] scope pos) (qG n js wi g tc te):=by
 intro pins s σ H Q I h;obtain⟨cl,hclos,hc1,hc2⟩:=zdW cap I;rw[eval_ListComp];refine wpAny_comprehension_free (use:=none) rfl hs hclos hkind (vS cap).2.2.1 (thn (hi pins s σ H _ I h) λv s1 h1=>thn h1 λitv s2 h2=> ?_);obtain⟨it,fp,tn,J,H2,rfl,I2,T,st2,f2,q⟩:=h2;refine zf3 (RR:=λacc C=>compPost (model X.prog X.w) X.A X.xe none (EP X pins σ Q) acc C) cap hkind hcalm hg hc he I2 T st2 f2 hc1 hc2 q ?_;intro l C H' s' m I' hn hC hL hs0 hcell hpin hfs hq;exact⟨m,hn,λh' hsb=>⟨.ref l,H',I'.turned (t':=s'.toks) (λb o hb e=>(hsb.2 b hb).trans e) hC hL (.inr hs0) hcell hpin,rfl,hq⟩⟩
theorem vo{i:Nat}{y:Str}{py spos:Pos}(hN:X.N.Nodup)(hi:X.N[i]? =some y)(hy:X.env.scope.names.lookup y=some .local)(cap:wM X.env.scope.names X.N scope.names N n js=true)(hkind:scope.kind= .function)(hcalm:X.calm=true)(hw:PI X tg iter wi)
  (hg: ∀a,PG (X.comp scope N a) tg (g a)) (hc: ∀a,PIf (X.comp scope N a) ifs (tc a)) (he: ∀a,PE (X.comp scope N a) elt (te a))
  (hsw:swapsWith (.ListComp elt [⟨tg,iter,ifs,0⟩] scope pos) (some (.Name y py)) spos.line X.env=pure true:=by rfl)
  (hs: ∀x,foldedSetIterable iter X.env x=pure x:=by intro _;rfl):PS X (.Assign [.Name y py] (.ListComp elt [⟨tg,iter,ifs,0⟩] scope pos) spos) (vI (qG n js wi g tc te) (xI i)):=by
 intro pins s σ H D I h;obtain⟨cl,hclos,hc1,hc2⟩:=zdW cap I;rw[exec_Assign_Name_used _ _ _ _ hsw];refine JW (wpAny_standAt (JW ?_));show wpAny _ X.A (do let _<-comprehension (.ListComp elt [⟨tg,iter,ifs,0⟩] scope pos) scope X.env _ (newList []) false (eval iter X.env) (some (assign (.Name y py) X.env))) _ _ s;refine JW (wpAny_mono (wpAny_comprehension_free (use:=some (assign (.Name y py) X.env)) (Q:=λ_ s'=>SP X pins D .next s') rfl hs hclos hkind (vS cap).2.2.1
  (thn (hw pins s σ H _ I h) λv s1 h1=>thn h1 λitv s2 h2=> ?_)) (λ_ s' hq=>JX (JX hq)) λ_ _ e=>e)
 obtain⟨it,fp,tn,J,H2,rfl,I2,T,st2,f2,q⟩:=h2;refine zf3 (Q:=λx H1=>D.nx (σ.set i (some x)) H1) (RR:=λacc C=>compPost (model X.prog X.w) X.A X.xe (some (assign (.Name y py) X.env)) (λ_ s'=>SP X pins D .next s') acc C) cap hkind hcalm hg hc he I2 T st2 f2 hc1 hc2 q ?_;intro l C H' s' m I' hn hC hL hs0 hcell hpin hfs hq;show wpAny _ X.A (assign (.Name y py) X.env (.ref l)) _ _ _;refine wpAny_assign_Name (zfT I' hN hi (.inl hy) (v:= .ref l) rfl (λs3 I3 hsb=> ?_) (.inr hy));obtain⟨b,hsb,hb⟩:=hsb;have nb:C≠b:=by
  rcases hb with rfl|hb
  ·exact hL
  ·exact λz=>hcell y b hb z.symm
 refine⟨m,hn.sameBut hsb nb,λh' hsb'=> ?_⟩;exact⟨σ.set i (some (.ref l)),H',I3.turned (t':=s3.toks) (λc o hc e=>(hsb'.2 c hc).trans e) hC hL (.inr hs0) hcell hpin,hq⟩
end
structure Lists (J:It) (H1:Hp) (ys:List V):Prop where
 go: ∀i H,zk H1 H->i<ys.length->J.go i H
 stop: ∀H,zk H1 H->J.stop ys.length H
 yld: ∀i H x H',zk H1 H->J.yld i H x H'->i<ys.length->H'=H/\ys[i]? =some x
theorem xZ{H1:Hp}(h:SqL K H1 a ys):Lists (Itl K a) H1 ys where
 go:=λi H sm hi=>⟨ys,ys[i],sm.seq h,Jb hi⟩
 stop:=λH sm=>⟨ys,sm.seq h,Je _⟩
 yld:=λi H x H' sm ⟨e,y⟩ _=>⟨e,y ys (sm.seq h)⟩
theorem zjS{H1:Hp}(h:SqT K H1 a ys):Lists (Itt K a) H1 ys where
 go:=λi H sm hi=>⟨ys,ys[i],sm.sqT h,Jb hi⟩
 stop:=λH sm=>⟨ys,sm.sqT h,Je _⟩
 yld:=λi H x H' sm ⟨e,y⟩ _=>⟨e,y ys (sm.sqT h)⟩
def rng(lo:Int)(n:Nat):List V:=(List.range n).map λ(i:Nat)=>V.int (lo+i)
theorem qz(lo:Int)(n:Nat):(rng lo n).length=n:=by unfold rng;rw[Ja,JI]
theorem vU{lo:Int}{i:Nat}(h:i<n):(rng lo n)[i]? =some (.int (lo+i)):=by
 unfold rng;rw[Jh,List.getElem?_range h];rfl
theorem uE(lo:Int)(n:Nat)(H1:Hp):Lists (Itr lo n) H1 (rng lo n) where
 go:=λi H _ hi=>by rw[qz] at hi;exact hi
 stop:=λH _=>by rw[qz];exact Je _
 yld:=λi H x H' _ ⟨e,y⟩ hi=>⟨e,by rw[qz] at hi;rw[vU hi,y]⟩
def Sm(i:Int):Prop:=i.natAbs<2 ^ 3000
theorem Sm.bits(h:Sm i):Builtin.Int.intBits i<=2 ^ 20:=by
 unfold Builtin.Int.intBits;by_cases z:i.natAbs=0
 ·obtain rfl:i=0:=by omega
  decide
 ·have q:i.natAbs.log2<3000:=(Nat.log2_lt z).mpr h;have e:(2:Nat) ^ 20=1048576:=by decide
  split<;>omega
theorem Sm.log(h:Sm i):i.natAbs.log2<9000:=by
 by_cases z:i.natAbs=0
 ·rw[z];decide
 ·have q:i.natAbs.log2<3000:=(Nat.log2_lt z).mpr h;omega
theorem Sm.pow10{k:Nat}(hk:k<=700)(h:i.natAbs<=10 ^ k):Sm i:=by
 refine Nat.lt_of_le_of_lt h ?_;refine Nat.lt_of_le_of_lt (Nat.pow_le_pow_left (show 10<=2 ^ 4 by decide) k) ?_;rw[<-Nat.pow_mul];exact Nat.pow_lt_pow_right 'd' 'o'
section
variable {X:Cx}
theorem zmU:OpR X (binaryOp .Mult) (rI (λi j=>vh i j\/(Sm i/\Sm j)) λi j=> .int (i*j)):=opI λ_ _ _ _ _ _ _ hc q=>mul_int q (by
 rcases hc with hc|⟨h1,h2⟩
 ·exact hc.ok
 ·exact IntMulOk.of_bits h1.bits h2.bits)
theorem zkU:OpR X (binaryOp .FloorDiv) (rI (λ_ j=>0<j/\Sm j) λi j=> .int (i / j)):=opI λi j _ _ _ _ _ hc q=>by
 have h1:(0:Int)<j:=hc.1;exact floordiv_int 'o' (by rw[Int.fdiv_eq_ediv_of_nonneg i 'o'];exact q) (.inl (PyProof.noPylong_of_log2 hc.2.log))
theorem j3:bootBuiltins "sum"=some (.builtin "sum"):=by decide+kernel
theorem uF:bootBuiltins "sorted"=some (.builtin "sorted"):=by decide+kernel
theorem j4(ns:List Int): ∀k,k<=ns.length->PySem.preSum (λi=>ns.getD i 0) k=(ns.take k).sum
 |0,_=>rfl
 |k+1,h=>by
  show PySem.preSum (λi=>ns.getD i 0) k+ns.getD k 0=_;rw[j4 ns k 'o',JH,List.sum_append,Jo,Jb 'o'];simp
theorem zkV(hc:X.calm=true):yV X (.builtin "sum") (λxs H Q=> ∃(p:Addr) (ns:List Int),xs= [.ref p]/\SqL X.K H p (ns.map V.int)/\Q (.int ns.sum) H):=by
 intro pins s σ H xs us Q I r h;obtain⟨p,ns,rfl,hq,q⟩:=h;obtain⟨u,rfl,ru⟩:=xc r;obtain rfl:u=Value.ref p:=ru;obtain⟨its,rv,pl,hz⟩:=I.list hq;have hl:ns.length=its.length:=by rw[<-rv.length,Ja]
 obtain⟨o0,n0,e0,_⟩:=id pl;have ne:p≠s.heap.objs.size:=JK (Qb e0);refine call_sum_walkG (wpAny_pyIter_list pl.isList ?_);refine⟨s.heap.objs.size,_,_,_,_,_,λi=>ns.getD i 0,rfl,Walks.list (show X.A.in1.handled=none from I.ok.hd hc) s.heap.objs.size p ne its.toArray,⟨⟨_,Qc _ rfl,rfl,rfl⟩,?_⟩,?_,?_,λh' tk t' hk=> ?_⟩
 ·exact pl.isList.at λo e=>Qa _ e
 ·intro b hb;have hb':b=s.heap.objs.size\/b=p:=by simpa using hb
  show b<(s.heap.push _).objs.size;rw[Heap.size_push];rcases hb' with rfl|rfl
  ·exact Nat.lt_succ_self _
  ·exact Nat.lt_succ_of_lt (Qb e0)
 ·intro i v hv;have hi:its[i]? =some v:=by simpa using hv
  obtain⟨hlt,_⟩:=Jc.mp hi;have hb:(ns.map V.int)[i]? =some (.int ns[i]):=by rw[Jh,Jb 'o'];rfl
  obtain⟨u',e',t,rfl⟩:=rv.get hb;rw[hi] at e';cases e';have z:ns.getD i 0=ns[i]:=by rw[Jo,Jb 'o'];rfl
  exact⟨t,by show Value.int ns[i] t=Value.int (ns.getD i 0) t;rw[z]⟩
 ·have e:PySem.preSum (λi=>ns.getD i 0) its.toArray.size=ns.sum:=by rw[Jn,<-hl,j4 ns _ (Je _),JC]
  rw[e];refine⟨.int _,H,I.kept (t':=tk) λb o hb=>hk b o (λz=> ?_) (Qa _ hb),⟨_,rfl⟩,q⟩;have z':b=s.heap.objs.size:=by simpa using z
  exact absurd (z' ▸ Qb hb) (Nat.lt_irrefl _)
end
inductive D where
 |non
 |bl (b:Bool)
 |int (i:Int)
 |str (cs:List Nat)
 |tup (ds:List D)
 |lst (ds:List D)
def all2(f:D->V->Prop):List D->List V->Prop
 | [], []=>True
 |d::ds,x::xs=>f d x/\all2 f ds xs
 |_,_=>False
def Dp(K:Fg)(H:Hp):Nat->D->V->Prop
 |_, .non,v=>v= .non
 |_, .bl b,v=>v= .bl b
 |_, .int i,v=>v= .int i
 |_, .str cs,v=>v= .str (SL cs)
 |n+1, .tup ds,v=> ∃a xs,v= .ref a/\SqT K H a xs/\all2 (Dp K H n) ds xs
 |n+1, .lst ds,v=> ∃a xs,v= .ref a/\SqL K H a xs/\all2 (Dp K H n) ds xs
 |0, .tup _,_=>False
 |0, .lst _,_=>False
def qP(f:D->D->Bool):List D->List D->Bool
 | [], []=>true
 |a::r,b::t=>f a b && qP f r t
 |_,_=>false
def eqb:Nat->D->D->Bool
 |_, .non, .non=>true
 |_, .bl a, .bl b=>a==b
 |_, .bl a, .int b=>(if a then 1 else 0)==b
 |_, .int a, .bl b=>a==(if b then 1 else 0)
 |_, .int a, .int b=>a==b
 |_, .str a, .str b=>a==b
 |n+1, .tup a, .tup b=>qP (eqb n) a b
 |n+1, .lst a, .lst b=>qP (eqb n) a b
 |_,_,_=>false
def xM:D->Bool
 | .tup _=>true
 | .lst _=>true
 |_=>false
def yC:Nat->D->D->Prop
 |n+1, .tup a, .tup b=> ∀(j:Nat) (x y:D),a[j]? =some x->b[j]? =some y->yC n x y
 |n+1, .lst a, .lst b=> ∀(j:Nat) (x y:D),a[j]? =some x->b[j]? =some y->yC n x y
 |_,a,b=>xM a=false/\xM b=false
theorem qA{f:D->V->Prop}: ∀{ds:List D} {xs:List V},all2 f ds xs->ds.length=xs.length
 | [], [],_=>rfl
 |_::_,_::_,h=>by rw[Jp,Jp,qA h.2]
 | [],_::_,h=>h.elim
 |_::_, [],h=>h.elim
theorem vp{f:D->V->Prop}: ∀{ds:List D} {xs:List V} {j:Nat} {d:D} {x:V},all2 f ds xs->ds[j]? =some d->xs[j]? =some x->f d x
 | [], [],_,_,_,_,h,_=>by simp at h
 |a::r,b::t,0,d,x,h,h1,h2=>by
  simp at h1 h2;rw[<-h1,<-h2];exact h.1
 |a::r,b::t,j+1,d,x,h,h1,h2=>vp h.2 (by simpa using h1) (by simpa using h2)
 | [],_::_,_,_,_,h,_,_=>h.elim
 |_::_, [],_,_,_,h,_,_=>h.elim
theorem j5{f:D->D->Bool}: ∀{ds:List D},(∀d∈ds,f d d=true)->qP f ds ds=true
 | [],_=>rfl
 |d::r,h=>by
  unfold qP;rw[h d Jq,j5 λx hx=>h x (Jl _ hx)];rfl
theorem uG{f:D->V->Prop}(h:all2 f ds xs){d:D}(hd:d∈ds): ∃x,f d x:=by
 obtain⟨j,hj,rfl⟩:=List.getElem_of_mem hd;have hl:=qA h;exact⟨xs[j],vp h (Jb hj) (Jb 'o')⟩
theorem uH{K:Fg}{H:Hp}: ∀{n:Nat} {d:D} {v:V},Dp K H n d v->eqb n d d=true
 |_, .non,_,_=>by unfold eqb;rfl
 |_, .bl _,_,_=>by unfold eqb;simp
 |_, .int _,_,_=>by unfold eqb;simp
 |_, .str _,_,_=>by unfold eqb;simp
 |n+1, .tup ds,v,h=>by
  unfold Dp at h;obtain⟨a,xs,e,hq,hs⟩:=h;unfold eqb;exact j5 λd hd=>let ⟨x,hx⟩:=uG hs hd;uH hx
 |n+1, .lst ds,v,h=>by
  unfold Dp at h;obtain⟨a,xs,e,hq,hs⟩:=h;unfold eqb;exact j5 λd hd=>let ⟨x,hx⟩:=uG hs hd;uH hx
 |0, .tup _,_,h=>by unfold Dp at h;exact h.elim
 |0, .lst _,_,h=>by unfold Dp at h;exact h.elim
theorem j6{K:Fg}{H:Hp}: ∀{n:Nat} {d:D} {v:V},Dp K H n d v->yC n d d
 |0, .non,_,_=>⟨rfl,rfl⟩
 |0, .bl _,_,_=>⟨rfl,rfl⟩
 |0, .int _,_,_=>⟨rfl,rfl⟩
 |0, .str _,_,_=>⟨rfl,rfl⟩
 |_+1, .non,_,_=>⟨rfl,rfl⟩
 |_+1, .bl _,_,_=>⟨rfl,rfl⟩
 |_+1, .int _,_,_=>⟨rfl,rfl⟩
 |_+1, .str _,_,_=>⟨rfl,rfl⟩
 |n+1, .tup ds,v,h=>by
  unfold Dp at h;obtain⟨a,xs,e,hq,hs⟩:=h;intro j x y h1 h2;rw[h1] at h2;cases h2;obtain⟨z,hz⟩:=uG hs (Ji h1);exact j6 hz
 |n+1, .lst ds,v,h=>by
  unfold Dp at h;obtain⟨a,xs,e,hq,hs⟩:=h;intro j x y h1 h2;rw[h1] at h2;cases h2;obtain⟨z,hz⟩:=uG hs (Ji h1);exact j6 hz
 |0, .tup _,_,h=>by unfold Dp at h;exact h.elim
 |0, .lst _,_,h=>by unfold Dp at h;exact h.elim
def sc:D->Option V
 | .non=>some .non
 | .bl b=>some (.bl b)
 | .int i=>some (.int i)
 | .str cs=>some (.str (SL cs))
 |_=>none
theorem Dp.sc{K:Fg}{H:Hp}{n:Nat}{d:D}{v x:V}(h:sc d=some x):Dp K H n d v=(v=x):=by
 cases d with
 |non=>cases h;unfold Dp;rfl
 |bl b=>cases h;unfold Dp;rfl
 |int i=>cases h;unfold Dp;rfl
 |str cs=>cases h;unfold Dp;rfl
 |tup ds=>cases h
 |lst ds=>cases h
theorem Dp.flat{d:D}(h:Dp K H 0 d v): ∃x,L2.sc d=some x:=by
 cases d with
 |tup ds=>unfold Dp at h;exact h.elim
 |lst ds=>unfold Dp at h;exact h.elim
 |_=>exact⟨_,rfl⟩
theorem Dp.isRef{d:D}(h:L2.sc d=none)(p:Dp K H n d v): ∃a,v= .ref a:=by
 cases d with
 |tup ds=>
  cases n with
  |zero=>unfold Dp at p;exact p.elim
  |succ n=>unfold Dp at p;obtain⟨a,_,e,_⟩:=p;exact⟨a,e⟩
 |lst ds=>
  cases n with
  |zero=>unfold Dp at p;exact p.elim
  |succ n=>unfold Dp at p;obtain⟨a,_,e,_⟩:=p;exact⟨a,e⟩
 |non=>cases h
 |bl _=>cases h
 |int _=>cases h
 |str _=>cases h
theorem sc_ref{d:D}(h:sc d=some x):x≠ .ref a:=by
 cases d<;>cases h<;>(intro z;cases z)
theorem sc_flat{d:D}(h:sc d=some x):xx x=true:=by
 cases d<;>cases h<;>rfl
theorem sc_inj{d:D}(h:sc d=some x)(g:sc e=some x):d=e:=by
 cases d<;>cases h<;>cases e<;>first
  |rfl
  |(cases g;rfl)
  |cases g
  |(have z:=V.str.inj (JV g)
    rw[wK] at z;rw[z])
theorem zkW{d:D}(h:sc d=some x)(g:sc e=none): ¬yC n d e:=by
 intro c;cases n<;>cases d<;>cases h<;>cases e<;>first
  |(unfold yC at c;obtain⟨_,z⟩:=c;cases z;done)
  |(cases g;done)
theorem zkX{d:D}(h:sc d=none)(g:sc e=some x): ¬yC n d e:=by
 intro c;cases n<;>cases e<;>cases g<;>cases d<;>first
  |(unfold yC at c;obtain⟨z,_⟩:=c;cases z;done)
  |(cases h;done)
theorem zoA(a b:List Nat):(SL a==SL b)=(a==b):=by
 rw[Bool.eq_iff_iff,beq_iff_eq,beq_iff_eq,wK]
theorem zkY{d:D}{y:V}(h:sc d=some x)(g:sc e=some y):eqb n d e=eqV x y:=by
 cases d<;>cases h<;>cases e<;>cases g<;>(unfold eqb eqV)<;>first
  |rfl
  |exact(zoA _ _).symm
section
variable {X:Cx} {pins:List (Addr×Obj)} {σ:St} {H:Hp} {s:Shared}
theorem zhl(I:Inv X pins σ H s)(h:SqT X.K H a xs)(g:SqL X.K H a ys):False:=by
 obtain⟨i1,_,⟨o1,e1,c1,_⟩,_⟩:=I.tuple h;obtain⟨i2,_,⟨o2,n2,e2,c2,_⟩,_⟩:=I.list g;rw[e1] at e2;cases e2;rw[c1] at c2;revert c2
 simp
theorem j7{f g:D->V->Prop}: ∀{ds es:List D} {xs:List V},(∀d∈ds,∀e x,f d x->g e x->d=e)->all2 f ds xs->all2 g es xs->ds=es
 | [], [], [],_,_,_=>rfl
 |d::r,e::t,x::z,h,p,q=>by rw[h d Jq e x p.1 q.1,j7 (λd hd=>h d (Jl _ hd)) p.2 q.2]
 | [],_::_, [],_,_,q=>q.elim
 | [],_::_,_::_,_,p,_=>p.elim
 |_::_, [], [],_,p,_=>p.elim
 |_::_, [],_::_,_,_,q=>q.elim
 |_::_,_::_, [],_,p,_=>p.elim
 | [], [],_::_,_,p,_=>p.elim
theorem Dp.det(I:Inv X pins σ H s): ∀{n:Nat} {d e:D} {v:V},Dp X.K H n d v->Dp X.K H n e v->d=e:=by
 intro n;induction n with
 |zero=>
  intro d e v p q;obtain⟨x,hx⟩:=Dp.flat p;obtain⟨y,hy⟩:=Dp.flat q;rw[Dp.sc hx] at p;rw[Dp.sc hy] at q;exact sc_inj hx (by rw[hy,<-q,p])
 |succ n ih=>
  intro d e v p q;cases hx:L2.sc d with
  |some x=>
   rw[Dp.sc hx] at p;cases hy:L2.sc e with
   |some y=>
    rw[Dp.sc hy] at q;exact sc_inj hx (by rw[hy,<-q,p])
   |none=>
    obtain⟨a,e2⟩:=Dp.isRef hy q;exact absurd (p.symm.trans e2) (sc_ref hx)
  |none=>
   cases hy:L2.sc e with
   |some y=>
    rw[Dp.sc hy] at q;obtain⟨a,e2⟩:=Dp.isRef hx p;exact absurd (q.symm.trans e2) (sc_ref hy)
   |none=>
    cases d with
    |tup ds=>
     unfold Dp at p;obtain⟨a,xs,rfl,h1,p⟩:=p;cases e with
     |tup es=>
      unfold Dp at q;obtain⟨b,ys,eb,h2,q⟩:=q;cases eb;have exy:=I.tuple_inj h1 h2;subst exy;exact congrArg D.tup (j7 (f:=Dp X.K H n) (g:=Dp X.K H n) (λd _ e x p q=>ih p q) p q)
     |lst es=>
      unfold Dp at q;obtain⟨b,ys,eb,h2,q⟩:=q;cases eb;exact(zhl I h1 h2).elim
     |non=>cases hy
     |bl _=>cases hy
     |int _=>cases hy
     |str _=>cases hy
    |lst ds=>
     unfold Dp at p;obtain⟨a,xs,rfl,h1,p⟩:=p;cases e with
     |lst es=>
      unfold Dp at q;obtain⟨b,ys,eb,h2,q⟩:=q;cases eb;have exy:=I.list_inj h1 h2;subst exy;exact congrArg D.lst (j7 (f:=Dp X.K H n) (g:=Dp X.K H n) (λd _ e x p q=>ih p q) p q)
     |tup es=>
      unfold Dp at q;obtain⟨b,ys,eb,h2,q⟩:=q;cases eb;exact(zhl I h2 h1).elim
     |non=>cases hy
     |bl _=>cases hy
     |int _=>cases hy
     |str _=>cases hy
    |non=>cases hx
    |bl _=>cases hx
    |int _=>cases hx
    |str _=>cases hx
theorem uI: ∀(ds es:List D),((List.range (min ds.length es.length)).all (λj=>eqb n (ds.getD j .non) (es.getD j .non)) && ds.length==es.length)=qP (eqb n) ds es:=by
 intro ds es;rw[Bool.eq_iff_iff,Bool.and_eq_true,List.all_eq_true,beq_iff_eq];induction ds generalizing es with
 |nil=>
  cases es with
  |nil=>simp [qP]
  |cons e t=>simp [qP]
 |cons d r ih=>
  cases es with
  |nil=>simp [qP]
  |cons e t=>
   unfold qP;rw[Bool.and_eq_true,<-ih t];constructor
   ·rintro⟨h,hl⟩;refine⟨by simpa using h 0 (List.mem_range.mpr (by simp)),λj hj=> ?_,by simpa using hl⟩
    have:=h (j+1) (List.mem_range.mpr (by rw[Jp,Jp];have:=List.mem_range.mp hj;omega));simpa using this
   ·rintro⟨h0,h,hl⟩;refine⟨λj hj=> ?_,by simpa using hl⟩;cases j with
    |zero=>simpa using h0
    |succ j=>
     have hj':=List.mem_range.mp hj;rw[Jp,Jp] at hj';simpa using h j (List.mem_range.mpr 'o')
theorem wa{its:List Value}(h:all2 (Dp X.K H n) ds xs)(r:zB xs its)(j:Nat)(hj:j<its.toArray.size): ∃x,ds[j]? =some (ds.getD j .non)/\Dp X.K H n (ds.getD j .non) x/\zw x its.toArray[j]:=by
 have hl:=qA h;have hr:=r.length;have hj':j<its.length:=by simpa using hj
 have e1:ds[j]? =some (ds.getD j .non):=by
  rw[Jo,Jb 'o'];rfl
 have e2:xs[j]? =some xs[j]:=Jb 'o';obtain⟨u,eu,ru⟩:=r.get e2;refine⟨xs[j],e1,vp h e1 e2,?_⟩;rw[Jb hj'] at eu;rw[List.getElem_toArray];rw[JV eu];exact ru
theorem j8(I:Inv X pins σ H s): ∀{n:Nat} {d e:D} {v w:V} {u u':Value} {A:Around},yC n d e->Dp X.K H n d v->Dp X.K H n e w->zw v u->zw w u'->A.units+n<cLine->SeqAt.EqAt A s u u' (eqb n d e):=by
 intro n;induction n with
 |zero=>
  intro d e v w u u' A c p q rv rw' hu;obtain⟨x,hx⟩:=Dp.flat p;obtain⟨y,hy⟩:=Dp.flat q;rw[Dp.sc hx] at p;rw[Dp.sc hy] at q;subst p q;rw[zkY hx hy];exact jR rv rw' (sc_flat hx) (sc_flat hy)
 |succ n ih=>
  intro d e v w u u' A c p q rv rw' hu;cases hx:L2.sc d with
  |some x=>
   cases hy:L2.sc e with
   |some y=>
    rw[Dp.sc hx] at p;rw[Dp.sc hy] at q;subst p q;rw[zkY hx hy];exact jR rv rw' (sc_flat hx) (sc_flat hy)
   |none=>exact absurd c (zkW hx hy)
  |none=>
   cases hy:L2.sc e with
   |some y=>exact absurd c (zkX hx hy)
   |none=>
    by_cases same:v=w
    ·subst same;have ed:=Dp.det I p q;subst ed;rw[uH p];have eu:u=u':=by
      obtain⟨a,rfl⟩:=Dp.isRef hx p;cases rv;cases rw';rfl
     subst eu;exact SeqAt.EqAt.same _
    ·cases d with
     |tup ds=>
      cases e with
      |tup es=>
       unfold Dp at p q;obtain⟨a,xs,rfl,h1,p⟩:=p;obtain⟨b,ys,rfl,h2,q⟩:=q;cases rv;cases rw';obtain⟨i1,r1,t1,_⟩:=I.tuple h1;obtain⟨i2,r2,t2,_⟩:=I.tuple h2;have l1:=qA p;have l2:=qA q;have l3:=r1.length;have l4:=r2.length;refine SeqAt.EqAt.of_refs (λz=>same (by rw[z])) ?_;have fin:=SeqAt.RcAt.tuples (A:=A) (e:=λj=>eqb n (ds.getD j .non) (es.getD j .non)) t1 t2 'o' (λj j1 j2=> ?_)
       ·rw[Jn,Jn,show i1.length=ds.length by omega,show i2.length=es.length by omega,uI] at fin;unfold eqb;exact fin
       ·obtain⟨x,g1,d1,f1⟩:=wa p r1 j j1;obtain⟨y,g2,d2,f2⟩:=wa q r2 j j2;exact ih (c j _ _ g1 g2) d1 d2 f1 f2 (by show A.units+1+n<cLine;omega)
      |lst es=>exact absurd c (by unfold yC;simp [xM])
      |non=>cases hy
      |bl _=>cases hy
      |int _=>cases hy
      |str _=>cases hy
     |lst ds=>
      cases e with
      |lst es=>
       unfold Dp at p q;obtain⟨a,xs,rfl,h1,p⟩:=p;obtain⟨b,ys,rfl,h2,q⟩:=q;cases rv;cases rw';obtain⟨i1,r1,t1,_⟩:=I.list h1;obtain⟨i2,r2,t2,_⟩:=I.list h2;have l1:=qA p;have l2:=qA q;have l3:=r1.length;have l4:=r2.length;refine SeqAt.EqAt.of_refs (λz=>same (by rw[z])) ?_;have r0:=uI (n:=n) ds es;unfold eqb;by_cases hs:i1.length=i2.length
       ·have fin:=SeqAt.RcAt.lists (A:=A) (e:=λj=>eqb n (ds.getD j .non) (es.getD j .non)) t1.isList t2.isList (by simpa using hs) 'o' (λj j1 j2=> ?_)
        ·have e1:ds.length=es.length:=by omega
         rw[<-e1,Nat.min_self,beq_self_eq_true,Bool.and_true] at r0;rw[Jn,show i1.length=ds.length by omega,r0] at fin;exact fin
        ·obtain⟨x,g1,d1,f1⟩:=wa p r1 j j1;obtain⟨y,g2,d2,f2⟩:=wa q r2 j j2;exact ih (c j _ _ g1 g2) d1 d2 f1 f2 (by show A.units+1+n<cLine;omega)
       ·have fin:=SeqAt.RcAt.lists_lengths (A:=A) t1.isList t2.isList (by simpa using hs) 'o';have z:(ds.length==es.length)=false:=by
         rw[beq_eq_false_iff_ne];omega
        rw[z,Bool.and_false] at r0;rw[<-r0];exact fin
      |tup es=>exact absurd c (by unfold yC;simp [xM])
      |non=>cases hy
      |bl _=>cases hy
      |int _=>cases hy
      |str _=>cases hy
     |non=>cases hx
     |bl _=>cases hx
     |int _=>cases hx
     |str _=>cases hx
theorem zjT(I:Inv X pins σ H s){d:D}{w:V}{u u':Value}(c:yC (n+1) d e)(p:Dp X.K H (n+1) d v)(q:Dp X.K H (n+1) e w)(hx:sc d=none)(hy:sc e=none)(rv:zw v u)(rw':zw w u')(hu:A.units+(n+1)<cLine):
  SeqAt.RcAt A s u u' (eqb (n+1) d e)/\SeqAt.RcNeAt A s u u' (!eqb (n+1) d e):=by
 cases d with
 |tup ds=>
  cases e with
  |tup es=>
   unfold Dp at p q;obtain⟨a,xs,rfl,h1,p⟩:=p;obtain⟨b,ys,rfl,h2,q⟩:=q;cases rv;cases rw';obtain⟨i1,r1,t1,_⟩:=I.tuple h1;obtain⟨i2,r2,t2,_⟩:=I.tuple h2;have l1:=qA p;have l2:=qA q;have l3:=r1.length;have l4:=r2.length;have el: ∀j (j1:j<i1.toArray.size) (j2:j<i2.toArray.size),SeqAt.EqAt A.in1 s i1.toArray[j] i2.toArray[j] (eqb n (ds.getD j .non) (es.getD j .non)):=λj j1 j2=>by
    obtain⟨x,g1,d1,f1⟩:=wa p r1 j j1;obtain⟨y,g2,d2,f2⟩:=wa q r2 j j2;exact j8 I (c j _ _ g1 g2) d1 d2 f1 f2 (by show A.units+1+n<cLine;omega)
   have f1:=SeqAt.RcAt.tuples (A:=A) (e:=λj=>eqb n (ds.getD j .non) (es.getD j .non)) t1 t2 'o' el;have f2:=SeqAt.RcNeAt.tuples (A:=A) (e:=λj=>eqb n (ds.getD j .non) (es.getD j .non)) t1 t2 'o' el;rw[Jn,Jn,show i1.length=ds.length by omega,show i2.length=es.length by omega,uI] at f1 f2;unfold eqb;exact⟨f1,f2⟩
  |lst es=>exact absurd c (by unfold yC;simp [xM])
  |non=>cases hy
  |bl _=>cases hy
  |int _=>cases hy
  |str _=>cases hy
 |lst ds=>
  cases e with
  |lst es=>
   unfold Dp at p q;obtain⟨a,xs,rfl,h1,p⟩:=p;obtain⟨b,ys,rfl,h2,q⟩:=q;cases rv;cases rw';obtain⟨i1,r1,t1,_⟩:=I.list h1;obtain⟨i2,r2,t2,_⟩:=I.list h2;have l1:=qA p;have l2:=qA q;have l3:=r1.length;have l4:=r2.length;have el: ∀j (j1:j<i1.toArray.size) (j2:j<i2.toArray.size),SeqAt.EqAt A.in1 s i1.toArray[j] i2.toArray[j] (eqb n (ds.getD j .non) (es.getD j .non)):=λj j1 j2=>by
    obtain⟨x,g1,d1,f1⟩:=wa p r1 j j1;obtain⟨y,g2,d2,f2⟩:=wa q r2 j j2;exact j8 I (c j _ _ g1 g2) d1 d2 f1 f2 (by show A.units+1+n<cLine;omega)
   have r0:=uI (n:=n) ds es;unfold eqb;by_cases hs:i1.length=i2.length
   ·have f1:=SeqAt.RcAt.lists (A:=A) (e:=λj=>eqb n (ds.getD j .non) (es.getD j .non)) t1.isList t2.isList (by simpa using hs) 'o' el;have f2:=SeqAt.RcNeAt.lists (A:=A) (e:=λj=>eqb n (ds.getD j .non) (es.getD j .non)) t1.isList t2.isList (by simpa using hs) 'o' el;have e1:ds.length=es.length:=by omega
    rw[<-e1,Nat.min_self,beq_self_eq_true,Bool.and_true] at r0;rw[Jn,show i1.length=ds.length by omega,r0] at f1 f2;exact⟨f1,f2⟩
   ·have f1:=SeqAt.RcAt.lists_lengths (A:=A) t1.isList t2.isList (by simpa using hs) 'o';have f2:=SeqAt.RcNeAt.lists_lengths (A:=A) t1.isList t2.isList (by simpa using hs) 'o';have z:(ds.length==es.length)=false:=by
     rw[beq_eq_false_iff_ne];omega
    rw[z,Bool.and_false] at r0;rw[<-r0];exact⟨f1,f2⟩
  |tup es=>exact absurd c (by unfold yC;simp [xM])
  |non=>cases hy
  |bl _=>cases hy
  |int _=>cases hy
  |str _=>cases hy
 |non=>cases hx
 |bl _=>cases hx
 |int _=>cases hx
 |str _=>cases hx
end
section
variable {X:Cx}
def zqc(K:Fg)(neg:Bool):R2:=λx y H Q=> ∃n d e,Dp K H (n+1) d x/\Dp K H (n+1) e y/\sc d=none/\sc e=none/\n<=50/\yC (n+1) d e/\Q (.bl (if neg then !eqb (n+1) d e else eqb (n+1) d e)) H
theorem vV{k:Nat}(hr:Room k X.A):OpR X (compareOp .NotEq) (zqc X.K true):=by
 intro pins s σ H x y v u Q I rx ry h;obtain⟨n,d,e,p,q,hx,hy,hn,c,hq⟩:=h;have hu:=hr.units;exact(zjT I (A:=X.A) c p q hx hy rx ry 'o').2 X.prog X.w _ _ ⟨.bl _,H,I,rfl,hq⟩
theorem neD{d:D}{y:V}(p:Dp K H (n+1) d x)(q:Dp K H (n+1) d y)(hx:sc d=none)(hn:n<=50)(h:Q (.bl false) H):zqc K true x y H Q:=
 ⟨n,d,d,p,q,hx,hx,hn,j6 p,by rw[uH p];exact h⟩
end
theorem xh(h:SqT K H a xs)(q:all2 (Dp K H n) ds xs):Dp K H (n+1) (.tup ds) (.ref a):=by
 unfold Dp;exact⟨a,xs,rfl,h,q⟩
theorem xN(h:SqL K H a xs)(q:all2 (Dp K H n) ds xs):Dp K H (n+1) (.lst ds) (.ref a):=by
 unfold Dp;exact⟨a,xs,rfl,h,q⟩
theorem y6:Dp K H n (.int i) (.int i):=by unfold Dp;rfl
theorem qH{cs:List Nat}:Dp K H n (.str cs) (.str (SL cs)):=by unfold Dp;rfl
theorem zoB:Dp K H n .non .non:=by unfold Dp;rfl
theorem zf4{K:Fg}{H:Hp}{n:Nat}: ∀is:List Int,all2 (Dp K H n) (is.map D.int) (is.map V.int)
 | []=>trivial
 |_::r=>⟨y6,zf4 r⟩
def New(H:Hp)(o:HO)(Q:VK):Prop:= ∀p H',H p=none->zk H H'->H' p=some o->Q (.ref p) H'
theorem New.at(h:New H o Q){p:Addr}(hp:H p=none):Q (.ref p) (upd H p o):=h p _ hp (yP hp o) zF
section
variable {X:Cx} {es:List Expr} {t:TA} {pos:Pos}
def j9(t:TA):TE:=λσ H Q=>t σ H λxs H1=>xs.length<=sizeLine/\New H1 (.tup xs) Q
def ke(t:TA):TE:=λσ H Q=>t σ H λxs H1=>xs.length<=sizeLine/\New H1 (.lst xs) Q
theorem zmV{x1}(h:PA X es t):PE X (.Tuple es x1 pos) (j9 t):=by
 intro pins s σ H Q I hq;refine wpAny_Tuple_spliced (thn (h pos pins s σ H _ I hq) λus s1 ⟨xs,H1,I1,r,z,q⟩=>⟨by rw[<-r.length];exact z,?_⟩);have hf:H1 s1.heap.objs.size=none:=I1.hok.fresh (Je _);refine⟨.ref s1.heap.objs.size,upd H1 s1.heap.objs.size (.tup xs),I1.laid (t':=s1.toks) (λb u e=>Qa _ e) (Je _) ?_,rfl,q.at hf⟩;exact⟨z,us,r,⟨_,Qc _ rfl,rfl,_,rfl⟩⟩
theorem zmW(h:PA X es t):PE X (.List es pos) (ke t):=by
 intro pins s σ H Q I hq;refine wpAny_List_spliced (thn (h pos pins s σ H _ I hq) λus s1 ⟨xs,H1,I1,r,z,q⟩=>⟨by rw[<-r.length];exact z,?_⟩);have hf:H1 s1.heap.objs.size=none:=I1.hok.fresh (Je _);refine⟨.ref s1.heap.objs.size,upd H1 s1.heap.objs.size (.lst xs),I1.laid (t':=s1.toks) (λb u e=>Qa _ e) (Je _) ?_,rfl,q.at hf⟩;exact⟨z,us,0,r,Qc _ rfl⟩
theorem OpR.imp{f:Value->Value->Sem Value}{r r':R2}(h:OpR X f r)(i: ∀x y H Q,r' x y H Q->r x y H Q):OpR X f r':=λpins s σ H x y v u Q I rx ry q=>h pins s σ H x y v u Q I rx ry (i _ _ _ _ q)
theorem yV.imp{f:Value}{r r':List V->Hp->VK->Prop}(h:yV X f r)(i: ∀xs H Q,r' xs H Q->r xs H Q):yV X f r':=λpins s σ H xs us Q I rx q=>h pins s σ H xs us Q I rx (i _ _ _ q)
def zqd:R2:=λx y H Q=> ∃p q xs ys,x= .ref p/\y= .ref q/\H p=some (.lst xs)/\H q=some (.lst ys)/\xs.length+ys.length<=sizeLine/\New H (.lst (xs++ys)) Q
theorem vW:OpR X (binaryOp .Add) zqd:=zos.imp λ_ _ _ _ ⟨p,q,xs,ys,e1,e2,h1,h2,hz,hq⟩=>⟨p,q,xs,ys,e1,e2,h1,h2,hz,λ_ hp=>hq.at hp⟩
theorem zdA:yV X (.type "list") (λxs H Q=> ∃p ys,xs= [.ref p]/\(SqL X.K H p ys\/SqT X.K H p ys)/\New H (.lst ys) Q):=zgG.imp λ_ _ _ ⟨p,ys,e,h,q⟩=>⟨p,ys,e,h,λ_ hp=>q.at hp⟩
end
theorem qj(h:n<=1000):n<sizeLine:=Nat.lt_of_le_of_lt h 'd'
theorem qB(h:n<=1000):n<=sizeLine:=Nat.le_of_lt (qj h)
def zqe(g:TG)(tb:TS)(D:Ends)(σ:St)(J:It)(H1:Hp):Prop:= ∃W:Nat->Nat->St->Hp->Prop,(∃m,W 0 m σ H1)/\ ∀i m σ H,W i m σ H->
 (J.stop i H/\D.nx σ H)\/(J.go i H/\ ∃N:St->Hp->Prop,(∀σ' H',N σ' H'-> ∃m',m'<m/\W (i+1) m' σ' H')/\ ∀x H',J.yld i H x H'->g x σ H' λσ2 H2=>tb {D with nx:=N,ct:=N,bk:=D.nx} σ2 H2)
theorem qC{g:TG}{tb:TS}{D:Ends}(k: ∀R:It->Hp->Prop,(∀J H1,zqe g tb D σ J H1->R J H1)->wi σ H R):zp0 wi g tb D σ H:=k _ λ_ _ h=>h
section
variable {X:Cx} {pins:List (Addr×Obj)} {σ:St} {H:Hp} {s:Shared} {h':Heap} {ch:List Addr} {t':Nat}
theorem Inv.turnedL(I:Inv X pins σ H s)(hf: ∀b∈ch,qU X pins H b)(k: ∀b o,b∉ch->s.heap.get? b=some o->h'.get? b=some o):Inv X pins σ H {s with heap:=h',toks:=t'}:=by
 have nit: ∀b u,H b=some u->b∉ch:=λb u e z=>by rw[(hf b z).1] at e;cases e
 refine I.step (g':=s.gens) (d':=s.drawn) (ch:=ch) (λb hb=> ?_) (λb o _ _ hc e _=>k b o hc e) (λb o _ _ hc e _=>⟨o.slots,k b o hc e⟩) (λ_ _ _ _ n=>n)
  (λb o hc e=>⟨o,k b o hc e⟩) (λ_ _ e=>e) (λ_ _ _ e=>e) (λb ps e=>⟨#[],by rw[e];simp⟩) (λm hm=> ?_) (λb u e=> ?_) I.bare
 ·obtain⟨_,f1,_,f3,f4,f5⟩:=hf b hb;exact⟨f3,f1,f4,f5⟩
 ·obtain⟨o,es,ep,ho,r⟩:=hm;exact⟨o,es,ep,k _ o (λz=>(hf _ z).2.1 rfl) ho,r⟩
 ·refine(I.hok b u e).stay (λc v hc q=>k c v ?_ q) (λ_ q=>q) λ_ _ q=>q;rcases hc with z|z
  ·rw[z];exact nit b u e
  ·exact nit c _ z
theorem Inv.laidL(I:Inv X pins σ H s)(hf: ∀b∈ch,qU X pins H b)(k: ∀b o,b∉ch->s.heap.get? b=some o->h'.get? b=some o)(hp:s.heap.objs.size<=a)(new:z6 X.prog X.w (upd H a o) h' a o):
  Inv X pins σ (upd H a o) {s with heap:=h',toks:=t'}:=by
 have hn:=I.hok.fresh hp;have nit: ∀b u,H b=some u->b∉ch:=λb u e z=>by rw[(hf b z).1] at e;cases e
 refine I.step (g':=s.gens) (d':=s.drawn) (ch:=ch) (λb hb=> ?_) (λb o _ _ hc e _=>k b o hc e) (λb o _ _ hc e _=>⟨o.slots,k b o hc e⟩)
  (λb u _ e n=>by rw[zu (JK (Jy (Qb e) hp))];exact n)
  (λb o hc e=>⟨o,k b o hc e⟩) (λb xs e=>by rw[zu (yZ e hn)];exact e) (λb o u e=>by rw[zu (yZ e hn)];exact e) (λb ps e=>⟨#[],by rw[zu (yZ e hn),e];simp⟩) (λm hm=> ?_) (λb u e=> ?_) I.bare
 ·obtain⟨_,f1,_,f3,f4,f5⟩:=hf b hb;exact⟨f3,f1,f4,f5⟩
 ·obtain⟨o,es,ep,ho,r⟩:=hm;exact⟨o,es,ep,k _ o (λz=>(hf _ z).2.1 rfl) ho,r⟩
 ·by_cases hb:b=a
  ·subst hb;rw[zF] at e;cases e;exact new
  ·rw[zu hb] at e;refine(I.hok b u e).stay (λc v hc q=>k c v ?_ q) (λc q=>by rw[zu (yZ q hn)];exact q) λc xs q=>by rw[zu (yZ q hn)];exact q
   rcases hc with z|z
   ·rw[z];exact nit b u e
   ·exact nit c _ z
end
theorem zhm:PySem.W.kitOne K (.type "list") (.type "list")=some true:=by
 unfold PySem.W.kitOne;rw[Jg 'd']
section
variable {X:Cx}
end
section
variable {X:Cx} {Ek:St->XK} {k:Nat} {f:Addr} {fd:FuncData} {ps ks:List Str} {sp:Sp} {x:Str} {p pos:Pos} {e:Expr} {es:List Expr} {kws:List Keyword} {t tk:TA} {g:List Value->List Value->List Value} {gV:List V->List V->List V}
end
structure FunD (K:Fg) (x qual:Str) (st:Stmt) (f:Addr) (fd:FuncData):Prop where
 ex: ∃(dV oc:Value) (od:Option Addr) (kV doc pm:Value) (an:Option Addr) (cdv ct:Value) (osl:Array (Option Value)),
  fd=PySem.W.fnOf x qual (wI st) (xX st) (zE st) dV kV doc pm an cdv ct/\K.lookup f=some ⟨oc,od, .func fd,osl⟩/\PySem.W.codeIn K cdv qual=true
 kp:PySem.W.keepIn K (.ref f)=true
end L2
namespace Parts
variable {A s:Int}
end Parts
namespace L2
open PySem
variable{c:Prop}{a b l:Addr}{o:Option V}{xs:List (List Key×Addr×Value)}{u:Value}{y v:V}{P:Program}{w:World}{H H':Hp}{kvs:List (List Key×V)}{Q:Value->Shared->Prop}{s:Shared}{X:Cx}{σ:St}{ys:List V}{K:Fg}{zs:List En}{n:Nat}{nms:List (List Nat)}{e:Int}
section
variable {env:Env} {es:List Expr} {p:Pos}
theorem zC{c:Const}{j:Nat}:starEach (.Constant c j p::es) env=(false,eval (.Constant c j p) env)::starEach es env:=rfl
theorem zg{x:Str}:starEach (.Name x p::es) env=(false,eval (.Name x p) env)::starEach es env:=rfl
theorem zM{a b:Expr}{o:Operator}:starEach (.BinOp a o b p::es) env=(false,eval (.BinOp a o b p) env)::starEach es env:=rfl
theorem kg{xs:List Expr}{k}:starEach (.Tuple xs k p::es) env=(false,eval (.Tuple xs k p) env)::starEach es env:=rfl
theorem yf{a b:Expr}:starEach (.Subscript a b p::es) env=(false,eval (.Subscript a b p) env)::starEach es env:=rfl
theorem yI{f:Expr}{xs:List Expr}{ks:List Keyword}:starEach (.Call f xs ks p::es) env=(false,eval (.Call f xs ks p) env)::starEach es env:=rfl
end
open PySem PySem.Spec PyProof.Rows
def PSt(X:Cx)(st:Stmt)(t:TS):Prop:=
 ∀(pins:List (Addr×Obj)) (s:Shared) (σ:St) (H:Hp) (D:Ends),0<s.toks->Inv X pins σ H s->t D σ H->wpAny (model X.prog X.w) X.A (exec st X.env) (SP X pins D) X.xe s
def PTt(X:Cx)(e:Expr)(t:TT):Prop:=
 ∀(pins:List (Addr×Obj)) (s:Shared) (σ:St) (H:Hp) (Q:Bool->Hp->Prop),0<s.toks->Inv X pins σ H s->t σ H Q->wpAny (model X.prog X.w) X.A (isTrue e X.env (eval e X.env)) (TP X pins σ Q) X.xe s
def PWt(X:Cx)(e:Expr)(t:TT):Prop:=
 ∀(whole:Sem Value) (pins:List (Addr×Obj)) (s:Shared) (σ:St) (H:Hp) (Q:Bool->Hp->Prop),0<s.toks->Inv X pins σ H s->t σ H Q->wpAny (model X.prog X.w) X.A (isTrue e X.env whole) (TP X pins σ Q) X.xe s
section
variable {X:Cx} {st:Stmt} {sts rest:List Stmt} {e a b:Expr} {es:List Expr} {u v:TS} {te ta tb to:TE} {tc tA tB':TT} {tl:TA} {pos:Pos}
theorem PE.t(h:PE X e te):PEt X e te:=λpins s σ H Q _ I q=>h pins s σ H Q I q
theorem PA.t(h:PA X es tl):PAt X es tl:=λps pins s σ H Q _ I q=>h ps pins s σ H Q I q
theorem PS.t(h:PS X st u):PSt X st u:=λpins s σ H D _ I q=>h pins s σ H D I q
theorem PSs.t(h:PSs X sts u):zqU X sts u:=λpins s σ H D _ I q=>h pins s σ H D I q
theorem PT.t(h:PT X e tc):PTt X e tc:=λpins s σ H Q _ I q=>h pins s σ H Q I q
theorem PW.t(h:PW X e tc):PWt X e tc:=λwh pins s σ H Q _ I q=>h wh pins s σ H Q I q
end
section
variable {X:Cx} {st:Stmt} {rest:List Stmt} {e a:Expr} {t u:TS} {te ta:TE} {pos cp:Pos}
end
structure FnOkT (P:Program) (w:World) (K:Fg) (mg:Str->Option Value) (base:Heap) (CX:CXT) (k:Nat) (f:Addr) (fd:FuncData) (ps:List Str) (sp:Sp):Prop where
 len: ∀vs H Q E,sp vs H Q E->vs.length=ps.length
 run: ∀(A:Around) (outer:List Env) (s:Shared) (H:Hp) (args:Args) (us:List Value) (vs:List V) (Q:VK) (E:XK),0<s.toks->Room k A->Env0 P w K mg base A outer s H->BindsTo s fd args (ps.zip us)->zB vs us->sp vs H Q E->
  codeAny (model P w) A (.call (.ref f) args) (CR CX outer P w H s Q E) s
section
variable {P:Program} {w:World} {K:Fg} {mg:Str->Option Value} {base:Heap} {x qual:Str} {st:Stmt} {f:Addr} {fd:FuncData} {N ps:List Str} {k:Nat} {sp:Sp}
end
section
variable {X:Cx} {Ek:St->XK} {k:Nat} {f:Addr} {fd:FuncData} {ps ks:List Str} {sp:Sp} {x:Str} {p pos:Pos} {e:Expr} {es:List Expr} {kws:List Keyword} {t tk:TA} {g:List Value->List Value->List Value} {gV:List V->List V->List V} {dvs:List V} {ds:List Value}
end
section
variable {X:Cx} {body suite:List Stmt} {b₀:Stmt} {n xn:Str} {i:Nat} {C:Addr} {tb:(St->XK)->TS} {ts:TS} {np hpos pos:Pos}
end
section
variable {X:Cx}
theorem zhn: ∀(n:Nat) (a:Array Nat) (cs:List Nat),((List.replicate n cs.toArray).foldl (· ++ ·) a).toList=a.toList++(List.replicate n cs).flatten
 |0,a,cs=>by simp
 |n+1,a,cs=>by
  rw[List.replicate_succ,List.foldl_cons,zhn n,List.replicate_succ,List.flatten_cons];simp
theorem zoC(cs:List Nat){k:Nat}:Txt.mul (SL cs) (k:Int)=SL (List.replicate k cs).flatten:=by
 unfold Txt.mul;by_cases h1:(k:Int)<1
 ·obtain rfl:k=0:=by omega
  rw[Jg h1];rfl
 rw[Jf h1];by_cases h2:((k:Int)==1||(SL cs).length==0)=true
 ·rw[Jg h2];rcases Bool.or_eq_true _ _ ▸ h2 with z|z
  ·have:k=1:=by have:=eq_of_beq z;omega
   subst this;simp
  ·have z':cs.length=0:=by rw[vn] at z;exact eq_of_beq z
   have:cs= []:=List.length_eq_zero_iff.mp z';subst this;congr 1;simp
 ·rw[Jf h2];refine(zqa _).trans (congrArg SL ?_)
  have:=zhn k #[] cs;rw[show (#[]:Array Nat).toList= [] from rfl,List.nil_append] at this;exact this
theorem zho:OpR X (binaryOp .Mult) (λx y H Q=> ∃cs k,x= .str (SL cs)/\y= .int ((k:Nat):Int)/\cs.length<=1000/\k<=1000/\Q (.str (SL (List.replicate k cs).flatten)) H):=by
 intro pins s σ H x y v u Q I rx ry h;obtain⟨cs,k,rfl,rfl,h1,h2,q⟩:=h;obtain⟨t,rfl⟩:=rx;obtain⟨t',rfl⟩:=ry;have hm:cs.length*k<=1000*1000:=Nat.mul_le_mul h1 h2;refine SB.mul ⟨?_,λa b=> ?_,λa b=> ?_⟩ λt' k'=> ?_
 ·rw[Bool.or_eq_false_iff];constructor<;>refine JP ?_<;>omega
 ·rw[vn]
  have:0<k:=by omega
  have e:((2:Int) ^ 63 - 1) / k≥1000:=by
   refine Int.le_ediv_of_mul_le 'o' ?_;omega
  omega
 ·rw[vn,JF];unfold Builtin.Str.tooLong;refine JP ?_;rw[sizeLine_eq];omega
 ·rw[zoC];exact⟨.str _,H,I.tok _,⟨_,rfl⟩,q⟩
end
open PySem PySem.NumText
theorem y8{A B:Prop}[Decidable c](h1:c->A)(h2: ¬c->B):if c then A else B:=by
 by_cases h:c
 ·rw[Jg h];exact h1 h
 ·rw[Jf h];exact h2 h
section
variable {κ:Type} [DecidableEq κ]
def y9(kvs:List (κ×V))(k:κ):Option V:=(kvs.find? λkv=>decide (kv.1=k)).map (·.2)
def yk(kvs:List (κ×V))(k:κ)(v:V):List (κ×V):=
 if (kvs.any λkv=>decide (kv.1=k))=true then kvs.map (λkv=>if kv.1=k then (kv.1,v) else kv) else kvs++ [(k,v)]
def wc(kvs:List (κ×V))(k:κ):List (κ×V):=kvs.filter λkv=>decide (kv.1≠k)
theorem vX{p:κ×V}{r:List (κ×V)}{k:κ}(e:p.1=k):y9 (p::r) k=some p.2:=by simp [y9,List.find?_cons,e]
theorem vY{p:κ×V}{r:List (κ×V)}{k:κ}(e: ¬p.1=k):y9 (p::r) k=y9 r k:=by simp [y9,List.find?_cons,e]
theorem kh(k:κ): ∀kvs:List (κ×V),(kvs.any λkv=>decide (kv.1=k))=(y9 kvs k).isSome
 | []=>rfl
 |p::r=>by
  rw[List.any_cons];by_cases e:p.1=k
  ·simp only[vX e,JO e,Bool.true_or,Option.isSome_some]
  ·rw[vY e,JP e,Bool.false_or];exact kh k r
theorem ko(kvs:List (κ×V))(k:κ)(v:V):(yk kvs k v).length<=kvs.length+1:=by
 unfold yk;split
 ·rw[Ja];omega
 ·rw[Jj,Jp,List.length_nil];omega
theorem zk1{kvs:List (κ×V)}{k:κ}(v:V)(h:y9 kvs k=none):yk kvs k v=kvs++ [(k,v)]:=by
 unfold yk;rw[kh,h];exact Jf 'd'
theorem qa.isSome_eq{u:Option Value}(r:qa o u):o.isSome=u.isSome:=by
 cases o with
 |none=>cases u with
  |none=>rfl
  |some _=>exact(show False from r).elim
 |some _=>cases u with
  |none=>exact(show False from r).elim
  |some _=>rfl
theorem qa.getD{o:Option V}{u:Option Value}{d:V}{d':Value}(r:qa o u)(rd:zw d d'):zw (o.getD d) (u.getD d'):=by
 cases o with
 |none=>cases u with
  |none=>exact rd
  |some _=>exact(show False from r).elim
 |some _=>cases u with
  |none=>exact(show False from r).elim
  |some _=>exact r
theorem KV.val{kvs:List (κ×V)}{vs:List (κ×Value)}(r:KV kvs vs)(k:κ):qa (y9 kvs k) (valueAt vs k):=by
 unfold KV at r;induction r with
 |nil=>exact True.intro
 | @cons p q ps qs h t ih=>
  obtain⟨h1,h2⟩:=h;by_cases e:p.1=k
  ·have e':q.1=k:=h1.symm.trans e;have b:valueAt (q::qs) k=some q.2:=by simp [valueAt,List.find?_cons,e']
   rw[vX e,b];exact h2
  ·have e': ¬q.1=k:=λz=>e (h1.trans z);have b:valueAt (q::qs) k=valueAt qs k:=by simp [valueAt,List.find?_cons,e']
   rw[vY e,b];exact ih
theorem KV.any{kvs:List (κ×V)}{vs:List (κ×Value)}(r:KV kvs vs)(k:κ):(kvs.any λkv=>decide (kv.1=k))=vs.any λkv=>decide (kv.1=k):=by
 unfold KV at r;induction r with
 |nil=>rfl
 |cons h t ih=>rw[List.any_cons,List.any_cons,ih,h.1]
theorem KV.repl{kvs:List (κ×V)}{vs:List (κ×Value)}(r:KV kvs vs)(k:κ)(ry:zw y u):
  KV (kvs.map λkv=>if kv.1=k then (kv.1,y) else kv) (vs.map λkv=>if kv.1=k then (kv.1,u) else kv):=by
 unfold KV at r ⊢;induction r with
 |nil=>exact .nil
 | @cons p q ps qs h t ih=>
  rw[JA,JA];refine .cons ?_ ih;obtain⟨h1,h2⟩:=h;by_cases e:p.1=k
  ·rw[Jg e,Jg (h1.symm.trans e)];exact⟨h1,ry⟩
  ·rw[Jf e,Jf (λz=>e (h1.trans z))];exact⟨h1,h2⟩
theorem KV.put{kvs:List (κ×V)}{vs:List (κ×Value)}(r:KV kvs vs)(k:κ)(ry:zw y u):KV (yk kvs k y) (stored vs k u):=by
 unfold yk stored;rw[r.any k];by_cases e:(vs.any λkv=>decide (kv.1=k))=true
 ·rw[Jg e,Jg e];exact r.repl k ry
 ·rw[Jf e,Jf e];exact Paired.snoc r ⟨rfl,ry⟩
theorem KV.drop{kvs:List (κ×V)}{vs:List (κ×Value)}(r:KV kvs vs)(k:κ):KV (wc kvs k) (without vs k):=by
 unfold KV at r ⊢;unfold wc without;induction r with
 |nil=>exact .nil
 | @cons p q ps qs h t ih=>
  obtain⟨h1,h2⟩:=h;rw[JU,JU];by_cases e:p.1=k
  ·have a: ¬decide (p.1≠k)=true:=by simp [e]
   have b: ¬decide (q.1≠k)=true:=by simp [h1.symm.trans e]
   rw[Jf a,Jf b];exact ih
  ·have e': ¬q.1=k:=λz=>e (h1.trans z);have a:decide (p.1≠k)=true:=by simp [e]
   have b:decide (q.1≠k)=true:=by simp [e']
   rw[Jg a,Jg b];exact .cons ⟨h1,h2⟩ ih
theorem KV.length{kvs:List (κ×V)}{vs:List (κ×Value)}(r:KV kvs vs):kvs.length=vs.length:=Paired.length r
theorem zk2(kvs:List (κ×V))(k:κ):(wc kvs k).length<=kvs.length:=List.length_filter_le _ _
end
theorem wf{k:Key}(r:zw (kV k) u):(yy P w).is k u=true:=by
 cases k with
 |inl i=>obtain⟨t,e⟩:=(show∃t,u=Value.int i t from r);subst e;exact zg5 P w i t
 |inr x=>obtain⟨t,e⟩:=(show∃t,u=Value.str x t from r);subst e;exact zg6 P w x t
theorem zf5{P:Program}{w:World}: ∀{ks:List Key} {us:List Value},zB (ks.map kV) us->ItemsAre (yy P w) ks us
 | [],_,r=>by rw[JR] at r;cases r;exact .nil
 |k::ks,_,r=>by
  rw[JA] at r;cases r with
  |cons h t=>exact .cons (wf h) (zf5 t)
abbrev KT(H:Hp):List (List Key×V)->List (List Key×Addr×Value)->Prop:=Paired λp q=>p.1=q.1/\H q.2.1=some (.tup (p.1.map kV))/\zw p.2 q.2.2
theorem KT.val(r:KT H kvs xs)(k:List Key):qa (y9 kvs k) ((atKey xs k).map (·.2)):=by
 induction r with
 |nil=>exact True.intro
 | @cons p q ps qs h t ih=>
  obtain⟨h1,_,h2⟩:=h;by_cases e:p.1=k
  ·have e':q.1=k:=h1.symm.trans e;have b:atKey (q::qs) k=some q.2:=by simp [atKey,List.find?_cons,e']
   rw[vX e,b];exact h2
  ·have e': ¬q.1=k:=λz=>e (h1.trans z);have b:atKey (q::qs) k=atKey qs k:=by simp [atKey,List.find?_cons,e']
   rw[vY e,b];exact ih
theorem KT.repl(r:KT H kvs xs)(k:List Key)(ry:zw y u):
  KT H (kvs.map λkv=>if kv.1=k then (kv.1,y) else kv) (xs.map (putAt k u)):=by
 induction r with
 |nil=>exact .nil
 | @cons p q ps qs h t ih=>
  rw[JA,JA];refine .cons ?_ ih;obtain⟨h1,h2,h3⟩:=h;unfold putAt;by_cases e:p.1=k
  ·rw[Jg e,Jg (h1.symm.trans e)];exact⟨h1,h2,ry⟩
  ·rw[Jf e,Jf (λz=>e (h1.trans z))];exact⟨h1,h2,h3⟩
theorem KT.put(r:KT H kvs xs)(k:List Key)(hb:H b=some (.tup (k.map kV)))(ry:zw y u):
  KT H (yk kvs k y) (storedH xs k b u):=by
 have e:(kvs.any λkv=>decide (kv.1=k))=(atKey xs k).isSome:=by
  rw[kh,(r.val k).isSome_eq,Option.isSome_map]
 unfold yk storedH;rw[e];by_cases q:(atKey xs k).isSome=true
 ·rw[Jg q,Jg q];exact r.repl k ry
 ·rw[Jf q,Jf q];exact Paired.snoc r ⟨rfl,hb,ry⟩
theorem KT.keeps(r:KT H kvs xs)(ht: ∀b ys,H b=some (.tup ys)->H' b=some (.tup ys)):KT H' kvs xs:=
 Paired.mapP r λ_ _ z=>⟨z.1,ht _ _ z.2.1,z.2.2⟩
section
variable {P:Program} {w:World} {H:Hp} {h:Heap} {a:Addr}
theorem znM{u:HO}(ok:HOk P w H h)(e:Rd H a u):z6 P w H h a u:=e.ok ok
theorem vZ{kvs:List (Key×V)}(ok:HOk P w H h)(e:Rd H a (.dK kvs)):kvs.length<=sizeLine/\(a==sysModules)=false/\ ∃vs,KV kvs vs/\h.DictOf (yy P w) a vs:=
 show z6 P w H h a (.dK kvs) from znM ok e
theorem uJ{kvs:List (Key×V)}(ok:HOk P w H h)(e:H a=some (.dK kvs)):kvs.length<=sizeLine/\(a==sysModules)=false/\ ∃vs,KV kvs vs/\h.DictOf (yy P w) a vs:=vZ ok (.inl e)
theorem uK{ks:List Key}(ok:HOk P w H h)(e:H a=some (.tup (ks.map kV))):(tupleKind (yy P w)).is h ks a:=by
 obtain⟨_,its,r,o,h1,h2,n,h3⟩:=(show z6 P w H h a (.tup (ks.map kV)) from ok a _ e)
 exact⟨o,its.toArray,n,h1,h2,h3,by simpa using zf5 r⟩
theorem v0(ok:HOk P w H h)(e:Rd H a (.dT kvs)):kvs.length<=sizeLine/\(a==sysModules)=false/\
  ∃xs,KT H kvs xs/\h.DictOfH (tupleKind (yy P w)) a xs:=by
 obtain⟨z,y,xs,r,o,es,ep,h1,h2,h3,h4,h5⟩:=(show z6 P w H h a (.dT kvs) from znM ok e)
 refine⟨z,y,xs,r,o,es,ep,h1,h2,h3,h4,λx hx=> ?_,h5⟩;have all: ∀{l:List (List Key×V)} {m:List (List Key×Addr×Value)},KT H l m-> ∀x∈m,(tupleKind (yy P w)).is h x.1 x.2.1:=by
  intro l m q;induction q with
  |nil=>intro x hx;exact nomatch hx
  | @cons p q ps qs hq t ih=>
   intro x hx;rcases JD.mp hx with e|hx
   ·subst e;exact uK ok (by rw[<-hq.1];exact hq.2.1)
   ·exact ih x hx
 exact all r x hx
theorem zqf(ok:HOk P w H h)(e:H a=some (.dT kvs)):kvs.length<=sizeLine/\(a==sysModules)=false/\
  ∃xs,KT H kvs xs/\h.DictOfH (tupleKind (yy P w)) a xs:=v0 ok (.inl e)
end
def yo(H:Hp)(a:Addr)(y:V)(r:Option V):Prop:=
 (∃kvs k,Rd H a (.dK kvs)/\y=kV k/\r=y9 kvs k)\/ ∃kvs k b,Rd H a (.dT kvs)/\y= .ref b/\H b=some (.tup (k.map kV))/\r=y9 kvs k
def qk(H:Hp)(a:Addr)(y v:V)(H':Hp):Prop:=
 (∃kvs k,H a=some (.dK kvs)/\y=kV k/\kvs.length<sizeLine/\H'=upd H a (.dK (yk kvs k v)))\/
 ∃kvs k b,H a=some (.dT kvs)/\y= .ref b/\H b=some (.tup (k.map kV))/\kvs.length<sizeLine/\H'=upd H a (.dT (yk kvs k v))
theorem yo.k{H:Hp}{a:Addr}{kvs:List (Key×V)}{k:Key}(e:H a=some (.dK kvs)):yo H a (kV k) (y9 kvs k):= .inl ⟨kvs,k, .inl e,rfl,rfl⟩
theorem yo.t{k:List Key}(e:H a=some (.dT kvs))(eb:H b=some (.tup (k.map kV))):yo H a (.ref b) (y9 kvs k):= .inr ⟨kvs,k,b, .inl e,rfl,eb,rfl⟩
theorem qk.k{H:Hp}{a:Addr}{kvs:List (Key×V)}{k:Key}{v:V}(e:H a=some (.dK kvs))(hl:kvs.length<sizeLine):qk H a (kV k) v (upd H a (.dK (yk kvs k v))):= .inl ⟨kvs,k,e,rfl,hl,rfl⟩
theorem qk.t{k:List Key}{v:V}(e:H a=some (.dT kvs))(eb:H b=some (.tup (k.map kV)))(hl:kvs.length<sizeLine):
  qk H a (.ref b) v (upd H a (.dT (yk kvs k v))):= .inr ⟨kvs,k,b,e,rfl,eb,hl,rfl⟩
section
variable {X:Cx} {pins:List (Addr×Obj)} {σ:St} {H:Hp} {s:Shared} {a:Addr} {y v:V} {u r:Value} {o:Option V} {A:Around} {E:Value->Shared->Prop}
theorem Inv.big(I:Inv X pins σ H s):sysModules<s.heap.objs.size:=by
 have h:mainGlobals<s.heap.objs.size:=(I.mod.glob.keeps I.bk).lt;exact Nat.lt_trans 'd' h
theorem zjU(hu:A.units+1<cLine)(I:Inv X pins σ H s)(g:yo H a y (some v))(ry:zw y u)(h: ∀w' s',Inv X pins σ H s'->zw v w'->Q w' s'):
  wpAny (model X.prog X.w) A (getItem (.ref a) u) Q E s:=by
 rcases g with⟨kvs,k,e,ey,l⟩|⟨kvs,k,b,e,ey,eb,l⟩
 ·subst ey;obtain⟨z,hd,vs,rel,dd⟩:=vZ I.hok e;obtain⟨w',hw,rw'⟩:=qa.some_of (v:=v) (o:=valueAt vs k) (by rw[l];exact rel.val k);exact wpAny_getItem_of (wf ry) dd.mapOf hw (h w' _ (I.tok _) rw')
 ·subst ey;cases (show u=Value.ref b from ry);obtain⟨z,hd,xs,rel,dd⟩:=v0 I.hok e;obtain⟨w',hw,rw'⟩:=qa.some_of (v:=v) (o:=(atKey xs k).map (·.2)) (by rw[l];exact rel.val k);obtain⟨p,hp,hp2⟩:=Jk.mp hw;refine wpAny_getItem_heap (tupleKind_room_in1 hu) (uK I.hok eb) dd hp ?_;rw[hp2];exact h w' _ (I.tok _) rw'
theorem uL{h':Heap}{t':Nat}{ob:HO}(I:Inv X pins σ H s)(mu:Mut (H a))(hs:Heap.SameBut a s.heap h')(he: ∃q,h'.get? a=some q)(new:z6 X.prog X.w (upd H a ob) h' a ob):
  Inv X pins σ (upd H a ob) {s with heap:=h',toks:=t'}:=
 I.write (x:=a) (e:=a) mu (.inl rfl) (λb q hb z=>(hs.2 b hb).trans z) he new
theorem kr{H':Hp}{h':Heap}{kvs:List (Key×V)}{vs:List (Key×Value)}(z:kvs.length<=sizeLine)(hd:(a==sysModules)=false)(rel:KV kvs vs)(dd:h'.DictOf (yy P w) a vs):
  z6 P w H' h' a (.dK kvs):=⟨z,hd,vs,rel,dd⟩
theorem zjV{Q:Unit->Shared->Prop}(hu:A.units+1<cLine)(I:Inv X pins σ H s)(g:qk H a y v H')(ry:zw y u)(rv:zw v r)(h: ∀s',Inv X pins σ H' s'->Q () s'):
  wpAny (model X.prog X.w) A (setItem (.ref a) u r) Q E s:=by
 rcases g with⟨kvs,k,e,ey,l,eH⟩|⟨kvs,k,b,e,ey,eb,l,eH⟩
 ·subst ey eH;obtain⟨z,hd,vs,rel,dd⟩:=uJ I.hok e;have hz:vs.length<=sizeLine:=by rw[<-rel.length];exact z
  have hl:(yk kvs k v).length<=sizeLine:=by have:=ko kvs k v;omega
  refine wpAny_setItem_pairs (hsz:=hz) (wf ry) dd λh' dd' hs=>h _ ?_;have he: ∃q,h'.get? a=some q:=let ⟨q,_,_,hq,_⟩:=dd';⟨q,hq⟩;exact uL I (by rw[e];exact True.intro) hs he (kr hl hd (rel.put k rv) dd')
 ·subst ey eH;cases (show u=Value.ref b from ry);obtain⟨z,hd,xs,rel,dd⟩:=zqf I.hok e;have hz:xs.length<=sizeLine:=by rw[<-Paired.length rel];exact z
  have hl:(yk kvs k v).length<=sizeLine:=by have:=ko kvs k v;omega
  refine wpAny_setItem_heap (hsz:=hz) (tupleKind_room_in1 hu) (uK I.hok eb) dd λh' dd' hs=>h _ ?_;obtain⟨q,es,ep,hq,h2,h3,h4,_,h5⟩:=dd';refine uL I (by rw[e];exact True.intro) hs ⟨q,hq⟩ ⟨hl,hd,_,(rel.put k eb rv).keeps λc ys ec=> ?_,q,es,ep,hq,h2,h3,h4,h5⟩;rw[zu (zpT ec e (λz=>nomatch z))];exact ec
end
section
variable {X:Cx} {pins:List (Addr×Obj)} {σ:St} {H:Hp} {s:Shared} {a:Addr} {kvs:List (Key×V)} {k:Key} {u:Value} {A:Around} {E:Value->Shared->Prop}
theorem zqg{more:List Value}{Q:Value->Shared->Prop}(I:Inv X pins σ H s)(e:H a=some (.dK kvs))(ry:zw (kV k) u)(l:y9 kvs k=some v)(hm:more= []\/ ∃x,more= [x])
  (h: ∀w' s',Inv X pins σ (upd H a (.dK (wc kvs k))) s'->zw v w'->Q w' s'):wpAny (model X.prog X.w) A (call (.builtin "dict.pop") (.ref a::u::more)) Q E s:=by
 obtain⟨z,hd,vs,rel,dd⟩:=uJ I.hok e;obtain⟨w',hw,rw'⟩:=qa.some_of (v:=v) (o:=valueAt vs k) (by rw[<-l];exact rel.val k);have hp:(keyPart u).isSome=true:=by
  cases k with
  |inl i=>obtain⟨t,q⟩:=(show∃t,u=Value.int i t from ry);subst q;rfl
  |inr x=>obtain⟨t,q⟩:=(show∃t,u=Value.str x t from ry);subst q;rfl
 have ha:argsOk "dict.pop" ⟨.ref a::u::more, []⟩:=by
  rcases hm with q|⟨x,q⟩
  ·subst q;exact PySem.F.args_dict_pop_2 _ _
  ·subst q;exact PySem.F.args_dict_pop_3 _ _ _
 refine call_meetsIn PySem.F.slot_dict_pop dd.typeIs PySem.F.entry_dict_pop ha (meets_dict_pop_there (yy X.prog X.w) a (wf ry) more hm hp)
  ⟨vs,w',dd,by rw[<-rel.length];exact z,hw,λh' dd' hs=>h w' _ ?_ rw'⟩
 have he: ∃q,h'.get? a=some q:=let ⟨q,_,_,hq,_⟩:=dd';⟨q,hq⟩;exact uL I (by rw[e];exact True.intro) hs he (kr (JE (zk2 kvs k) z) hd (rel.drop k) dd')
end
def ku(i:Expr):Prop:= ∀ov iv,subscripted i false ov iv=operate [ov,iv] (getItem ov iv)
theorem zi5{prog:Program}{w:World}{A:Around}{E:Value->Shared->Prop}{s:Shared}{env:Env}{value slice:Expr}{pos:Pos}{T id:String}{Q:Value->Shared->Prop}
  (hl:typeLookup (.type T) "__getitem__"=pure (some (.builtin id))) (hs:ku slice)
  (h:wpAny (model prog w) A (eval value env) (λo s₁=>wpAny (model prog w) A (eval slice env) (λi s₂=>s₂.TypeIs o T/\wpAny (model prog w) A (getItem o i) Q E s₂) E s₁) E s):
  wpAny (model prog w) A (eval (.Subscript value slice pos) env) Q E s:=by
 refine Subscript_ (wpAny_mono h (λo s₁ h₁=>wpAny_mono h₁ (λi s₂ h₂=> ?_) λ_ _ x=>x) λ_ _ x=>x);obtain⟨hT,h₂⟩:=h₂;unfold subscriptTail;refine JW ?_;rw[getitemInPython_of_ne hT.not_modules];refine JW (wpAny_specialOf hT hl ?_);have fin:wpAny (model prog w) A (subscripted slice false o i) (λr s₃=>wpAny (model prog w) A (letTemporaryGo value o r>>=λ_=>pure r) Q E s₃) E s₂:=by
  rw[hs o i];exact wpAny_operating (wpAny_mono h₂ (λr s₃ h₃=>JW (wpAny_letTemporaryGo (JX h₃))) λ_ _ x=>x)
 first
  |exact JX (JW fin)
  |exact JW (JX (JW fin))
  |exact JW fin
theorem zhr{pins:List (Addr×Obj)}(I:Inv X pins σ H s)(g:yo H a y o):s.TypeIs (.ref a) "dict":=by
 rcases g with⟨kvs,k,e,_,_⟩|⟨kvs,k,b,e,_,_,_⟩
 ·obtain⟨_,_,vs,_,dd⟩:=vZ I.hok e;exact dd.typeIs
 ·obtain⟨_,_,xs,_,dd⟩:=v0 I.hok e;exact dd.typeIs
def znN(td ty:TE):TE:=λσ H Q=>td σ H λx H1=>ty σ H1 λy H2=> ∃a v,x= .ref a/\yo H2 a y (some v)/\Q v H2
def znO(td ty tv:TE):TS:=λD σ H=>tv σ H λv H1=>td σ H1 λx H2=>ty σ H2 λy H3=> ∃a H4,x= .ref a/\qk H3 a y v H4/\D.nx σ H4
section
variable {X:Cx} {o i e value:Expr} {pos pos' tpos:Pos} {td ty tv:TE}
theorem qI(hu:X.A.units+1<cLine)(ho:PE X o td)(hi:PE X i ty)(hs:ku i):PE X (.Subscript o i pos) (znN td ty):=by
 intro pins s σ H Q I h;refine zi5 PySem.F.slot_dict_getitem.lookup hs (thn (ho pins s σ H _ I h) λu s1 ⟨x,H1,I1,rx,q1⟩=>thn (hi pins s1 σ H1 _ I1 q1) λiv s2 ⟨y,H2,I2,ry,a,v,ex,g,q2⟩=> ?_);subst ex;obtain rfl:u=Value.ref a:=rx;exact⟨zhr I2 g,zjU hu I2 g ry λw' s3 I3 rw'=>⟨v,H2,I3,rw',q2⟩⟩
theorem xi(hu:X.A.units+1<cLine)(ho:PE X o td)(hi:PE X i ty)(hv:PE X value tv)(hs:swapsWith value (some (.Subscript o i pos')) pos.line X.env=pure false):
  PS X (.Assign [.Subscript o i pos'] value pos) (znO td ty tv):=by
 intro pins s σ H D I h;refine wpAny_Assign_Subscript (thn (hv pins s σ H _ I h) λr s1 ⟨v,H1,I1,rv,q1⟩=>thn (ho pins s1 σ H1 _ I1 q1) λu s2 ⟨x,H2,I2,rx,q2⟩=>thn (hi pins s2 σ H2 _ I2 q2) λiv s3 ⟨y,H3,I3,ry,a,H4,ex,g,q3⟩=> ?_) hs;subst ex;obtain rfl:u=Value.ref a:=rx;exact zjV hu I3 g ry rv λs4 I4=>⟨σ,H4,I4,q3⟩
end
theorem zhs(h:Heap)(hb:sysModules<h.objs.size):z6 P w H (h.push {cls:= .type "dict",data:= .dict #[]}) h.objs.size (.dK []):=
 ⟨Jv _,beq_eq_false_iff_ne.mpr (Ne.symm (JK hb)), [], .nil,Heap.DictOf.new h⟩
def zoE:TE:=λ_ H Q=> ∀p,H p=none->Q (.ref p) (upd H p (.dK []))
section
variable {X:Cx} {pos:Pos}
theorem zk3:PE X (.Dict [] [] pos) zoE:=λpins s σ H Q I h=>
 wpAny_Dict_empty ⟨.ref s.heap.objs.size,_,I.laid (a:=s.heap.objs.size) (o:= .dK []) (t':=s.toks) (λ_ _ q=>Qa _ q) (Je _) (zhs s.heap I.big),rfl,h _ (I.hok.fresh (Je _))⟩
end
def uM:List (TE×TE)->St->Hp->(List (V×V)->Hp->Prop)->Prop
 | [],_,H,Q=>Q [] H
 |(tk,tv)::r,σ,H,Q=>tk σ H λx H1=>tv σ H1 λy H2=>uM r σ H2 λps H3=>Q ((x,y)::ps) H3
abbrev VV:List (V×V)->List (Value×Value)->Prop:=Paired λp q=>zw p.1 q.1/\zw p.2 q.2
def PPs(X:Cx)(pos:Pos)(keys:List (Option Expr))(values:List Expr)(trs:List (TE×TE)):Prop:=
 ∀(pins:List (Addr×Obj)) (s:Shared) (σ:St) (H:Hp) (Q:List (V×V)->Hp->Prop),Inv X pins σ H s->uM trs σ H Q->
  wpAny (model X.prog X.w) X.A (evalPairs (pairTrees keys values X.env pos)) (λvs s'=> ∃ps H',Inv X pins σ H' s'/\VV ps vs/\Q ps H') X.xe s
theorem zmX{pos:Pos}:PPs X pos [] [] []:=λpins s σ H Q I h=>pairTrees_nil_walk ⟨[],H,I, .nil,h⟩
theorem kz{pos:Pos}{k v:Expr}{ks:List (Option Expr)}{vs:List Expr}{tk tv:TE}{trs:List (TE×TE)}(hk:PE X k tk)(hv:PE X v tv)(hr:PPs X pos ks vs trs):
  PPs X pos (some k::ks) (v::vs) ((tk,tv)::trs):=λpins s σ H Q I h=>
 pairTrees_cons_walk (thn (hk pins s σ H _ I h) λu s1 ⟨x,H1,I1,rx,q1⟩=>thn (hv pins s1 σ H1 _ I1 q1) λw2 s2 ⟨y,H2,I2,ry,q2⟩=>
  thn (hr pins s2 σ H2 _ I2 q2) λws s3 ⟨ps,H3,I3,rel,q3⟩=>⟨(x,y)::ps,H3,I3, .cons ⟨rx,ry⟩ rel,q3⟩)
def vq(kvs more:List (Key×V)):List (Key×V):=more.foldl (λacc kv=>yk acc kv.1 kv.2) kvs
theorem KV.merge: ∀{more:List (Key×V)} {rs:List (Key×Value)} {kvs:List (Key×V)} {vs:List (Key×Value)},KV more rs->KV kvs vs->KV (vq kvs more) (merged vs rs):=by
 intro more rs kvs vs r;unfold KV at r;induction r generalizing kvs vs with
 |nil=>intro q;exact q
 | @cons p q ps qs h t ih=>
  intro r0;have e:KV (yk kvs p.1 p.2) (stored vs q.1 q.2):=by
   have:=r0.put p.1 h.2;rw[<-h.1];exact this
  exact ih e
theorem zdB: ∀(more kvs:List (Key×V)),(vq kvs more).length<=kvs.length+more.length
 | [],kvs=>by show kvs.length<=kvs.length+0;omega
 |p::r,kvs=>by
  have h1:=zdB r (yk kvs p.1 p.2);have h2:=ko kvs p.1 p.2;show (vq (yk kvs p.1 p.2) r).length<=_;rw[Jp];omega
theorem zfa{P:Program}{w:World}: ∀{kvs:List (Key×V)} {ws:List (Value×Value)},VV (kvs.map λkv=>(kV kv.1,kv.2)) ws-> ∃rs,Carries (yy P w) ws rs/\KV kvs rs
 | [],_,r=>by rw[JR] at r;cases r;exact⟨[],True.intro, .nil⟩
 |p::kvs,_,r=>by
  rw[JA] at r;cases r with
  | @cons a b as bs h t=>
   obtain⟨rs,c,q⟩:=zfa (P:=P) (w:=w) t;obtain⟨b1,b2⟩:=b;exact⟨(p.1,b2)::rs,⟨wf h.1,rfl,c⟩, .cons ⟨rfl,h.2⟩ q⟩
def znP(trs:List (TE×TE)):TE:=λσ H Q=> ∀p,H p=none->uM trs σ (upd H p (.dK [])) λps H2=>H2 p=some (.dK [])/\ ∃kvs:List (Key×V),ps=kvs.map (λkv=>(kV kv.1,kv.2))/\kvs.length<=15/\Q (.ref p) (upd H2 p (.dK (vq [] kvs)))
theorem zmY{pos:Pos}{keys:List (Option Expr)}{values:List Expr}{trs:List (TE×TE)}(h:PPs X pos keys values trs)(hall:keys.all (·.isSome)=true)(hl:keys.length=values.length)(h0:keys≠ [])
  (h15:keys.length<=15):PE X (.Dict keys values pos) (znP trs):=by
 intro pins s σ H Q I q;have hn:=I.hok.fresh (Je s.heap.objs.size);have I1:=I.laid (a:=s.heap.objs.size) (o:= .dK []) (h':=s.heap.push {cls:= .type "dict",data:= .dict #[]}) (t':=s.toks) (λ_ _ q=>Qa _ q) (Je _) (zhs s.heap I.big);refine wpAny_Dict_walk (knd:=yy X.prog X.w) hall hl h0 h15 (thn (h pins _ σ _ _ I1 (q _ hn)) λws s2 ⟨ps,H2,I2,rel,e,kvs,ep,lk,q2⟩=> ?_);subst ep;obtain⟨rs,c,rk⟩:=zfa (P:=X.prog) (w:=X.w) rel;obtain⟨z,hd,vs0,r0,dd⟩:=uJ I2.hok e;cases r0;refine⟨rs,c,dd,λh' dd' hs=>⟨.ref s.heap.objs.size,_,?_,rfl,q2⟩⟩;have hz:(vq [] kvs).length<=sizeLine:=by
  have h1:=zdB kvs [];rw[List.length_nil] at h1;rw[sizeLine_eq];omega
 have he: ∃q,h'.get? s.heap.objs.size=some q:=let ⟨q,_,_,hq,_⟩:=dd';⟨q,hq⟩;exact uL I2 (by rw[e];exact True.intro) hs he (kr hz hd (rk.merge .nil) dd')
structure M1 (X:Cx) (o:Expr) (m:Str) (apos:Pos) (e:Expr) (cpos:Pos):Prop where
 base:attributeBase o m X.env (eval o X.env)=eval o X.env
 few:((backTo cpos (starEach [e] X.env)).all (λx=> !x.1) && (backToKw cpos (keywordEach [] X.env)).all (λx=>x.1.isSome)
  && decide (([e]:List Expr).length+([]:List Keyword).length+(if ([]:List Keyword).isEmpty then 0 else 1)<30))=true
 line:(apos.endLine==cpos.line)=true
 trees:backTo cpos (starEach [e] X.env)= [(false,eval e X.env)]
structure M2 (X:Cx) (o:Expr) (m:Str) (apos:Pos) (e f:Expr) (cpos:Pos):Prop where
 base:attributeBase o m X.env (eval o X.env)=eval o X.env
 few:((backTo cpos (starEach [e,f] X.env)).all (λx=> !x.1) && (backToKw cpos (keywordEach [] X.env)).all (λx=>x.1.isSome)
  && decide (([e,f]:List Expr).length+([]:List Keyword).length+(if ([]:List Keyword).isEmpty then 0 else 1)<30))=true
 line:(apos.endLine==cpos.line)=true
 trees:backTo cpos (starEach [e,f] X.env)= [(false,eval e X.env),(false,eval f X.env)]
def IsD(H:Hp)(a:Addr):Prop:=(∃kvs,Rd H a (.dK kvs))\/ ∃kvs,Rd H a (.dT kvs)
theorem zk4{pins:List (Addr×Obj)}(I:Inv X pins σ H s)(d:IsD H a):
  s.TypeIs (.ref a) "dict"/\(∀b,Value.ref a= .ref b-> ∃ob,s.heap.get? b=some ob/\ob.dict=none)/\(a==sysModules)=false:=by
 rcases d with⟨kvs,e⟩|⟨kvs,e⟩
 ·obtain⟨_,hd,vs,_,dd⟩:=vZ I.hok e;refine⟨dd.typeIs,λb q=> ?_,hd⟩;cases q;obtain⟨ob,_,_,h1,h2,_⟩:=dd;exact⟨ob,h1,h2.2.1⟩
 ·obtain⟨_,hd,xs,_,dd⟩:=v0 I.hok e;refine⟨dd.typeIs,λb q=> ?_,hd⟩;cases q;obtain⟨ob,_,_,h1,h2,_⟩:=dd;exact⟨ob,h1,h2.2.1⟩
section
variable {X:Cx} {pins:List (Addr×Obj)} {σ:St} {H:Hp} {s:Shared} {a:Addr} {y d:V} {u r:Value} {o:Option V} {A:Around} {E:Value->Shared->Prop}
theorem zoF(hu:A.units+1<cLine)(I:Inv X pins σ H s)(g:yo H a y o)(ry:zw y u)(rd:zw d r)(h: ∀w' s',Inv X pins σ H s'->zw (o.getD d) w'->Q w' s'):
  wpAny (model X.prog X.w) A (call (.builtin "dict.get") [.ref a,u,r]) Q E s:=by
 rcases g with⟨kvs,k,e,ey,l⟩|⟨kvs,k,b,e,ey,eb,l⟩
 ·subst ey;obtain⟨z,hd,vs,rel,dd⟩:=vZ I.hok e;refine call_meetsIn PySem.F.slot_dict_get dd.typeIs PySem.F.entry_dict_get (PySem.F.args_dict_get_3 _ _ _) (meets_dict_get_default (yy X.prog X.w) a (wf ry) hd r) ⟨_,dd.mapOf,h _ _ (I.tok _) ?_⟩;rw[l];exact(rel.val k).getD rd
 ·subst ey;cases (show u=Value.ref b from ry);obtain⟨z,hd,xs,rel,dd⟩:=v0 I.hok e;refine call_meetsIn PySem.F.slot_dict_get dd.typeIs PySem.F.entry_dict_get (PySem.F.args_dict_get_3 _ _ _) (meetsH_dict_get_default (tupleKind (yy X.prog X.w)) a b hd r) ⟨tupleKind_room_in1 hu,k,xs,uK I.hok eb,dd,h _ _ (I.tok _) ?_⟩;rw[l];exact(rel.val k).getD rd
end
def zk5(td ty tx:TE):TE:=λσ H Q=>td σ H λx H1=> ∃a,x= .ref a/\IsD H1 a/\ty σ H1 λy H2=>tx σ H2 λz H3=> ∃o,yo H3 a y o/\Q (o.getD z) H3
def zk6(td ty:TE):TE:=λσ H Q=>td σ H λx H1=> ∃a,x= .ref a/\IsD H1 a/\ty σ H1 λy H2=> ∃kvs k v,H2 a=some (.dK kvs)/\y=kV k/\y9 kvs k=some v/\Q v (upd H2 a (.dK (wc kvs k)))
section
variable {X:Cx} {o e f:Expr} {apos cpos:Pos} {td ty tx:TE}
theorem uN(hu:X.A.units+1<cLine)(ho:PE X o td)(he:PE X e ty)(hf:PE X f tx)(m:M2 X o "get" apos e f cpos):PE X (.Call (.Attribute o "get" apos) [e,f] [] cpos) (zk5 td ty tx):=by
 intro pins s σ H Q I h;refine wpAny_Call_method m.base m.few m.line PySem.F.plainAttrs_dict PySem.F.slot_dict_get PySem.F.type_dict_get (thn (ho pins s σ H _ I h) λu s1 ⟨x,H1,I1,rx,a,ex,d,q1⟩=> ?_);subst ex;obtain rfl:u=Value.ref a:=rx;obtain⟨t1,t2,_⟩:=zk4 I1 d;refine⟨t1,t2,?_⟩;rw[m.trees];refine Calls.callWith_builtin rfl (Calls.evalArgs_plain (Calls.spliced_cons (thn (he pins s1 σ H1 _ I1 q1) λiv s2 ⟨y,H2,I2,ry,q2⟩=>
  Calls.spliced_cons (thn (hf pins s2 σ H2 _ I2 q2) λfv s3 ⟨z,H3,I3,rz,ov,g,q3⟩=>Calls.spliced_nil ?_))))
 exact zoF hu I3 g ry rz λw' s4 I4 rw'=>⟨_,H3,I4,rw',q3⟩
theorem zk7(ho:PE X o td)(he:PE X e ty)(m:M1 X o "pop" apos e cpos):PE X (.Call (.Attribute o "pop" apos) [e] [] cpos) (zk6 td ty):=by
 intro pins s σ H Q I h;refine wpAny_Call_method m.base m.few m.line PySem.F.plainAttrs_dict PySem.F.slot_dict_pop PySem.F.type_dict_pop (thn (ho pins s σ H _ I h) λu s1 ⟨x,H1,I1,rx,a,ex,d,q1⟩=> ?_);subst ex;obtain rfl:u=Value.ref a:=rx;obtain⟨t1,t2,_⟩:=zk4 I1 d;refine⟨t1,t2,?_⟩;rw[m.trees];refine Calls.callWith_builtin rfl (Calls.evalArgs_plain (Calls.spliced_cons (thn (he pins s1 σ H1 _ I1 q1) λiv s2 ⟨y,H2,I2,ry,kvs,k,v,ea,ey,l,q2⟩=>Calls.spliced_nil ?_)));subst ey;exact zqg I2 ea ry l (.inl rfl) λw' s3 I3 rw'=>⟨v,_,I3,rw',q2⟩
end
def zk8:TE:=λ_ H Q=>New H (.dK []) Q
theorem kA{pos:Pos}:PE X (.Dict [] [] pos) zk8:=λpins s σ H Q I h=>zk3 pins s σ H Q I λp hp=>h.at hp
def sv:D->V
 | .int i=> .int i
 | .str cs=> .str (SL cs)
 |_=> .non
theorem qQ{J:It}{H1:Hp}{σ0:St}{g:TG}{tc:TT}{te:TE}{Q:VK}(Pv:Nat->List V->Hp->Prop)(L:Lists J H1 ys)(hl:H1 l=none)(hz:ys.length<sizeLine)
  (h0: ∀H,zk H1 H->Pv 0 [] H)
  (hs: ∀i x xs H (K1:VK) (K0:Hp->Prop),ys[i]? =some x->zk H1 H->Pv i xs H->H l=some (.lst xs)->
   (∀v H4,zk H H4->(∀H5,(∀b o,b≠l->H4 b=some o->H5 b=some o)->Pv (i+1) (xs++ [v]) H5)->K1 v H4)->(∀H3,zk H H3->Pv (i+1) xs H3->K0 H3)->
   g x σ0 H λσ2 H2=>Sub σ0 σ2/\tc σ2 H2 λb H3=>if b=true then te σ2 H3 K1 else K0 H3)
  (hd: ∀xs H,zk H1 H->Pv ys.length xs H->xs.length<=ys.length->H l=some (.lst xs)->Q (.ref l) H):vT J σ0 g tc te l Q H1:=by
 refine⟨λi m xs H=>i<=ys.length/\m=ys.length - i/\zk H1 H/\Pv i xs H/\xs.length<=i/\H l=some (.lst xs),⟨ys.length,Jv _,'o',yP hl _,h0 _ (yP hl _),Je _,zF⟩,?_⟩;rintro i m xs H ⟨hi,rfl,sm,pv,hx,e⟩;refine⟨e,Nat.lt_of_le_of_lt hx 'o',?_⟩;by_cases hlt:i<ys.length
 ·refine .inr ⟨L.go i H sm hlt,λx H' y=> ?_⟩;obtain⟨rfl,hx'⟩:=L.yld i H x H' sm y hlt;refine hs i x xs H' _ _ hx' sm pv e (λv H4 s4 p4=> ?_) (λH3 s3 p3=> ?_)
  ·exact⟨s4 _ _ e,ys.length - (i+1),'o',hlt,rfl,uD (sm.trans s4) hl,p4 _ λb o hb q=>by rw[zu hb];exact q,by rw[Jj];simp only[Jp,List.length_nil];omega,zF⟩
  ·exact⟨ys.length - (i+1),'o',hlt,rfl,sm.trans s3,p3,'o',s3 _ _ e⟩
 ·have ei:i=ys.length:=by omega
  subst ei;exact .inl ⟨L.stop H sm,hd xs H sm pv hx e⟩
abbrev azL:List Nat:= [97,98,99,100,101,102,103,104,105,106,107,108,109,110,111,112,113,114,115,116,117,118,119,120,121,122]
theorem zqh{r:Int}(h0:0<=r)(h1:r<26):atI azL r=some (97+r.toNat):=by
 obtain⟨n,rfl⟩:=Int.eq_ofNat_of_zero_le h0
 have: ∀n:Nat,n<26->atI azL (n:Int)=some (97+n):=by decide
 exact this n 'o'
abbrev Pl:=List Nat×Int×Int
def plD(x:Pl):List D:= [.str x.1, .int x.2.1, .int x.2.2]
def vt(K:Fg)(H:Hp)(z:V×Pl):Prop:= ∃p,z.1= .ref p/\SqT K H p [.str (SL z.2.1), .int z.2.2.1, .int z.2.2.2]
def xC(K:Fg)(H:Hp)(zs:List (V×Pl)):Prop:= ∀z∈zs,vt K H z
theorem vt.same{z:V×Pl}(h:vt K H z)(s:zk H H'):vt K H' z:=let ⟨p,e,q⟩:=h;⟨p,e,s.sqT q⟩
theorem xC.same{K:Fg}{H H':Hp}{zs:List (V×Pl)}(h:xC K H zs)(s:zk H H'):xC K H' zs:=λz hz=>(h z hz).same s
theorem xC.all2{K:Fg}{H:Hp}: ∀{zs:List (V×Pl)},xC K H zs->all2 (Dp K H 1) ((zs.map λz=>plD z.2).map D.tup) (zs.map (·.1))
 | [],_=>trivial
 |z::r,h=>by
  refine⟨?_,xC.all2 λy hy=>h y (Jl _ hy)⟩;obtain⟨p,e,q⟩:=h z Jq;show Dp K H 1 (D.tup (plD z.2)) z.1;rw[e];exact xh q ⟨qH,y6,y6,trivial⟩
theorem zht(w:List Nat): ∀ws:List (List Nat),inV (.str (SL w)) (ws.map λx=>V.str (SL x))=decide (w∈ws)
 | []=>rfl
 |x::r=>by
  have ih:=zht w r;unfold inV at ih ⊢;rw[JA,List.any_cons,ih];show ((SL x==SL w)||decide (w∈r))=decide (w∈x::r);have e:(SL x==SL w)=decide (x=w):=by
   rw[Bool.eq_iff_iff,beq_iff_eq,decide_eq_true_eq,wK]
  rw[e,Bool.eq_iff_iff,Bool.or_eq_true,decide_eq_true_eq,decide_eq_true_eq,decide_eq_true_eq,JD];constructor
  ·rintro(h|h)
   ·exact .inl h.symm
   ·exact .inr h
  ·rintro(h|h)
   ·exact .inl h.symm
   ·exact .inr h
theorem zmZ{p:Addr}{xs:List V}(h:SqT K H p xs)(e:H l=some (.lst ys))(k: ∀b o,b≠l->H b=some o->H' b=some o):SqT K H' p xs:=by
 rcases h with(h|⟨ob,h⟩)|h
 ·have np:p≠l:=λz=>by rw[z,e] at h;cases h
  exact .inl (.inl (k _ _ np h))
 ·have np:p≠l:=λz=>by rw[z,e] at h;cases h
  exact .inl (.inr ⟨ob,k _ _ np h⟩)
 ·exact .inr h
def Ite(K:Fg)(a:Addr):It:=
 ⟨λi H=> ∃xs x,SqL K H a xs/\xs[i]? =some x,
  λi H v H'=> ∃p,v= .ref p/\H p=none/\zk H H'/\ ∃x,H' p=some (.tup [.int i,x])/\ ∀xs,SqL K H a xs->xs[i]? =some x,
  λi H=> ∃xs,SqL K H a xs/\xs.length<=i⟩
theorem zjX{P:Program}{w:World}{K:Fg}{es:List Expr}{n:Nat}{ps:Pos}(e it l:Addr)(hne:e≠it):
  Turn P w K (.Tuple es n ps) (Ite K l) [e,it] e (λi h=>(∃old,IsEnum h e it i old)/\h.IsListIter it l i) where
 mem:=by simp
 obj:=λi h st b hb=>by
  obtain⟨⟨old,he⟩,⟨o1,e1,_,d1⟩⟩:=st;have hb':b=e\/b=it:=by simpa using hb
  rcases hb' with rfl|rfl
  ·exact⟨_,he,λv q=>by
    have q':Data.fields _=Data.cell v:=q;cases q'⟩
  ·exact⟨_,e1,λv q=>by rw[d1] at q;cases q⟩
 keep:=λi h h' st k=>by
  obtain⟨⟨old,he⟩,h1⟩:=st;exact⟨⟨old,k e (by simp) _ he⟩,h1.at λo e=>k it (by simp) o e⟩
 item:=by
  intro X hP hw hK hc i pins s σ H E I hf st hg;subst hP hw hK;obtain⟨xs,x,hx,ex⟩:=hg;obtain⟨⟨old,he⟩,h1⟩:=st;obtain⟨us,rv,p,_⟩:=I.list hx;obtain⟨u,hu,ru⟩:=rv.get ex;refine wpAny_pyNext_enum_item he h1 p.isList (x:=u) (by simpa using hu) hne λh' a1 a2 a3 a4 hk=> ?_;refine⟨_,rfl,wpAny_letOwnedTupleGo_enum (s:={s with heap:=h',toks:=s.toks+1}) a1 λh2' hz' sb=> ?_⟩;have lt: ∀{c o},s.heap.get? c=some o->s.heap.objs.size≠c:=λe=>Nat.ne_of_gt (Qb e);have hp:=I.hok.fresh (Je s.heap.objs.size);have pr:=sb.extBut _ _ (lt he) a3;have I1:Inv X pins σ (upd H s.heap.objs.size (.tup [.int i,x])) {s with heap:=h2',toks:=s.toks+1}:=by
   refine I.laidL (ch:= [e,it]) (t':=s.toks+1) (λb hb=>hf b hb) (λb o hb e'=> ?_) (Je _) ⟨qB (by simp), [.int i s.toks,u], .cons ⟨_,rfl⟩ (.cons ru .nil),⟨_,pr,rfl,_,rfl⟩⟩;have hb': ¬(b=e\/b=it):=λq=>hb (by simpa using q);exact sb.extBut _ _ (λq=>hb' (.inl q)) (hk b o (λq=>hb' (.inl q)) (λq=>hb' (.inr q)) e')
  refine⟨.ref s.heap.objs.size,_,I1,rfl,⟨_,rfl,hp,yP hp _,x,zF,λws hw=> ?_⟩,⟨⟨_,hz'⟩,a2.extBut sb.extBut hne.symm⟩,λb hb=> ?_⟩
  ·rw[I.list_inj hw hx];exact ex
  ·have hb':b=e\/b=it:=by simpa using hb
   have hs: ∃o,s.heap.get? b=some o:=by
    rcases hb' with rfl|rfl
    ·exact⟨_,he⟩
    ·exact⟨_,h1.choose_spec.1⟩
   obtain⟨o,e⟩:=hs;rw[zu (lt e).symm];exact(hf b hb).1
 done:=by
  intro X hP hw hK hc i pins s σ H E I hf st hg;subst hP hw hK;obtain⟨xs,hx,hl⟩:=hg;obtain⟨⟨old,he⟩,h1⟩:=st;obtain⟨us,rv,p,_⟩:=I.list hx;have e1:=rv.length;refine wpAny_pyNext_enum_end (I.ok.hd hc) he h1 p.isList (by simp;omega) λh' hk=>⟨rfl,?_⟩
  refine I.turnedL (ch:= [it]) (t':=s.toks) (λb hb=>hf b ?_) (λb o hb e=> ?_)
  ·have hb':b=it:=by simpa using hb
   simp [hb']
  ·exact hk b o (λq=>hb (by simpa using q)) e
 self:=λ_ _ _ _ _ st h=>wpAny_pyIter_enum st.1.choose_spec h
def qr(K:Fg)(ta:TA):TI:=λσ H R=>ta σ H λvs H1=> ∃a,vs= [.ref a]/\(∃xs,SqL K H1 a xs)/\R (Ite K a) H1
theorem v7{es:List Expr}{n:Nat}{ps:Pos}{a:Expr}{ta:TA}{p pos:Pos}(hg:Gl X "enumerate")(hm:X.mg "enumerate"=none)(ha:PA X [a] ta)(hs:starEach [a] X.env= [(false,eval a X.env)]:=by rfl):
  PI X (.Tuple es n ps) (.Call (.Name "enumerate" p) [a] [] pos) (qr X.K ta):=by
 intro pins s σ H R I h;refine Call_ (wF I hg hm boot_enumerate (PyProof.Rows.callWith_type1 (thn (ha pos pins s σ H _ I h) λus s1 ⟨vs,H1,I1,r1,q1⟩=> ?_) (by rw[hs];rfl) (by rfl)));obtain⟨i,e,⟨xs,hx⟩,q⟩:=q1;subst e;cases r1 with
 |cons r rr=>
  cases rr;cases r;obtain⟨us,rv,pl,_⟩:=I1.list hx;refine call_enumerate_list pl.isList λh' hz hi1 hsz hk=>wpAny_pyIter_enum hz ?_;refine⟨_, [s1.heap.objs.size+1,s1.heap.objs.size],_,_,H1,rfl,I1.kept (t':=s1.toks) hk,zjX _ _ _ (Nat.succ_ne_self _),⟨⟨_,hz⟩,hi1⟩,λb hb=> ?_,q⟩;have hb':b=s1.heap.objs.size+1\/b=s1.heap.objs.size:=by simpa using hb
  have le:s1.heap.objs.size<=b:=by
   rcases hb' with rfl|rfl
   ·exact Nat.le_add_right _ _
   ·exact Je _
  exact I1.fpOk le (I1.hok.fresh le)
theorem uO{xs:List V}{j k:Nat}{tb:TS}{D:Ends}(Pv:Nat->St->Hp->Prop)(h0:Pv 0 σ H)(hl: ∀i σ H,i<=xs.length->Pv i σ H->SqL K H a xs)
  (hp: ∀i σ H H',Pv i σ H->zk H H'->Pv i σ H')
  (hs: ∀i x σ H,xs[i]? =some x->Pv i σ H->tb {D with nx:=Pv (i+1),ct:=Pv (i+1),bk:=D.nx} ((σ.set j (some (.int i))).set k (some x)) H) (hd: ∀σ H,Pv xs.length σ H->D.nx σ H):
  zqe (jH K 2 (wG (xI j) (wG (xI k) vH))) tb D σ (Ite K a) H:=by
 refine⟨λi m σ H=>m=xs.length - i/\i<=xs.length/\Pv i σ H,⟨xs.length,by simp,Jv _,h0⟩,?_⟩;rintro i m σ H ⟨rfl,hi,p⟩;have q1:=hl i σ H hi p;by_cases hlt:i<xs.length
 ·refine .inr ⟨⟨xs,xs[i],q1,by simp [hlt]⟩,Pv (i+1),λσ' H' p'=>⟨xs.length - (i+1),'o',rfl,hlt,p'⟩,λv H' yl=> ?_⟩;obtain⟨pp,rfl,_,sm,x,e,ex⟩:=yl;exact⟨pp, [.int i,x],rfl,SqT.of e,rfl, .int i, [x],rfl,x, [],rfl,rfl,hs i x σ H' (ex xs q1) (hp i σ H H' p sm)⟩
 ·have e:i=xs.length:=by omega
  subst e;exact .inl ⟨⟨xs,q1,Je _⟩,hd σ H p⟩
theorem zf6: ∀(ns:List Int) (j:Nat),(ns.eraseIdx j).map V.int=(ns.map V.int).eraseIdx j
 | [],_=>rfl
 |_::_,0=>rfl
 |x::r,j+1=>congrArg (V.int x:: ·) (zf6 r j)
inductive Ch where
 |plan (d:Int) (nm:List Nat)
 |seats (d n:Int)
 |word (w:Nat) (d:Int)
 |undo (k:Int)
 |grant (a:Int)
 |back
def qV:Nat->List Nat
 |0=> [104,111,108,100]
 |1=> [103,111]
 |2=> [115,116,111,112]
 |_=> [108,97,115,116]
def chD:Ch->List D
 | .plan d nm=> [.str [112,108,97,110], .int d, .str nm]
 | .seats d n=> [.str [115,101,97,116,115], .int d, .int n]
 | .word w d=> [.str (qV w), .int d]
 | .undo k=> [.str [117,110,100,111], .int k]
 | .grant a=> [.str [103,114,97,110,116], .int a]
 | .back=> [.str [98,97,99,107]]
theorem qW[Decidable c]{a b:Prop}(h:c)(x:a):if c then a else b:=by rw[Jg h];exact x
theorem zW[Decidable c]{a b:Prop}(h: ¬c)(x:b):if c then a else b:=by rw[Jf h];exact x
theorem yD{a b:List Nat}(h:a≠b): ¬V.str (SL a)=V.str (SL b):=λz=>h (by rw[V.str.injEq,wK] at z;exact z)
theorem zk.put(s:zk H H')(n:H a=none)(o:HO):zk H (upd H' a o):=λb u e=>by
 rw[zu (yZ e n)];exact s b u e
abbrev En:=V×Addr×Int×Ch
def yL:Ch->Bool
 | .plan _ _=>true
 | .seats _ _=>true
 | .word _ _=>true
 |_=>false
def qJ(n:Nat)(L:List Int):Ch->List Int
 | .undo k=>L.erase k
 | .grant _=>L
 | .back=>L
 |_=>L++ [(n:Int)]
def wO(cs:List Ch)(s:Nat×List Int):Nat×List Int:=cs.foldl (λs c=>(s.1+1,qJ s.1 s.2 c)) s
def ym(cs:List Ch):List Int:=(wO cs (0, [])).2
theorem kB(P:Nat->List Int->Prop)(hs: ∀n L c,P n L->P (n+1) (qJ n L c)): ∀(cs:List Ch) (s:Nat×List Int),P s.1 s.2->P (wO cs s).1 (wO cs s).2
 | [],_,h=>h
 |c::r,s,h=>kB P hs r (s.1+1,qJ s.1 s.2 c) (hs _ _ _ h)
theorem uP: ∀(cs:List Ch) (s:Nat×List Int),(wO cs s).1=s.1+cs.length
 | [],_=>rfl
 |c::r,s=>by
  show (wO r (s.1+1,_)).1=_;rw[uP r,Jp];omega
theorem kC(cs:List Ch)(c:Ch):ym (cs++ [c])=qJ cs.length (ym cs) c:=by
 unfold ym wO;rw[List.foldl_append];show qJ (wO cs (0, [])).1 _ c=_;rw[uP];show qJ (0+cs.length) _ c=_;rw[Nat.zero_add]
theorem wP(cs:List Ch):(ym cs).Nodup/\ ∀k∈ym cs,0<=k/\k<cs.length:=by
 have h:=kB (λn L=>L.Nodup/\ ∀k∈L,0<=k/\k<(n:Int)) (λn L c ⟨h1,h2⟩=>by
  have old: ∀k∈L,0<=k/\k<((n+1:Nat):Int):=λk hk=>⟨(h2 k hk).1,by have:=(h2 k hk).2;omega⟩
  have new:(L++ [(n:Int)]).Nodup/\ ∀k∈L++ [(n:Int)],0<=k/\k<((n+1:Nat):Int):=by
   refine⟨List.nodup_append.mpr ⟨h1,List.nodup_cons.mpr ⟨λz=>(nomatch z),List.nodup_nil⟩,λa ha b hb e=> ?_⟩,λk hk=> ?_⟩
   ·rw[Jm.mp hb] at e
    have:=(h2 a ha).2;omega
   ·rcases Jr.mp hk with z|z
    ·exact old k z
    ·rw[Jm.mp z];omega
  cases c with
  |plan=>exact new
  |seats=>exact new
  |word=>exact new
  |undo k=>exact⟨h1.erase k,λk' hk=>old k' (List.mem_of_mem_erase hk)⟩
  |grant=>exact⟨h1,old⟩
  |back=>exact⟨h1,old⟩) cs (0, []) ⟨List.nodup_nil,λk hk=>(nomatch hk)⟩
 refine⟨h.1,λk hk=> ?_⟩
 have:=h.2 k hk;rw[uP] at this;have e:(0,([]:List Int)).1+cs.length=cs.length:=Nat.zero_add _;rw[e] at this;exact this
theorem kD(cs:List Ch):(ym cs).length<=cs.length:=by
 have h:=kB (λn L=>L.length<=n) (λn L c h=>by
  cases c with
  |plan=>show (L++ [(n:Int)]).length<=n+1;rw[Jj,List.length_singleton];omega
  |seats=>show (L++ [(n:Int)]).length<=n+1;rw[Jj,List.length_singleton];omega
  |word=>show (L++ [(n:Int)]).length<=n+1;rw[Jj,List.length_singleton];omega
  |undo k=>exact JE (JE (List.length_erase_le ..) h) (Nat.le_succ n)
  |grant=>exact Nat.le_succ_of_le h
  |back=>exact Nat.le_succ_of_le h) cs (0, []) (Je 0)
 rw[uP] at h;have e:(0,([]:List Int)).1+cs.length=cs.length:=Nat.zero_add _;rw[e] at h;exact h
def kvG(g:Int->V)(L:List Int):List (Key×V):=L.map λk=>((Sum.inl k:Key),g k)
theorem kE(g:Int->V)(x:Int): ∀L:List Int,y9 (kvG g L) (Sum.inl x)=if x∈L then some (g x) else none
 | []=>rfl
 |k::r=>by
  unfold kvG;rw[JA];by_cases e:k=x
  ·subst e;rw[vX rfl,Jg Jq]
  ·rw[vY (by intro z;exact e (Sum.inl.inj z))];have ih:=kE g x r;unfold kvG at ih;rw[ih];by_cases h:x∈r
   ·rw[Jg h,Jg (Jl _ h)]
   ·rw[Jf h,Jf (λz=>(JD.mp z).elim (λq=>e q.symm) h)]
theorem zoG(g:Int->V){x:Int}{L:List Int}(h:x∉L):yk (kvG g L) (Sum.inl x) (g x)=kvG g (L++ [x]):=by
 rw[zk1 _ (by rw[kE,Jf h])];unfold kvG;rw[Jd];rfl
theorem zi6(g:Int->V)(x:Int): ∀{L:List Int},L.Nodup->wc (kvG g L) (Sum.inl x)=kvG g (L.erase x)
 | [],_=>rfl
 |k::r,h=>by
  obtain⟨h1,h2⟩:=List.nodup_cons.mp h;have ih:=zi6 g x h2;unfold kvG wc at ih ⊢;rw[JA,JU];by_cases e:k=x
  ·subst e;rw[Jf (by simp),List.erase_cons_head,ih,List.erase_of_not_mem h1]
  ·rw[Jg (by simpa using e),List.erase_cons_tail (by simpa using e),JA,ih]
def zqV(K:Fg)(H:Hp)(z:En):Prop:= ∃p,z.1= .ref p/\SqT K H p [.int z.2.2.1, .ref z.2.1]/\SqT K H z.2.1 ((chD z.2.2.2).map sv)
def yE(K:Fg)(H:Hp)(zs:List En):Prop:= ∀z∈zs,zqV K H z
theorem yE.same(h:yE K H zs)(s:zk H H'):yE K H' zs:=λz hz=>
 let ⟨p,e,q1,q2⟩:=h z hz;⟨p,e,s.sqT q1,s.sqT q2⟩
theorem yE.take{K:Fg}{H:Hp}{zs:List En}(h:yE K H zs)(n:Nat):yE K H (zs.take n):=λz hz=>h z (List.mem_of_mem_take hz)
def enD(z:En):D:= .tup [.int z.2.2.1, .tup (chD z.2.2.2)]
def uQ(nms:List (List Nat))(f e:Int)(L:List Int):Ch->Prop
 | .plan d nm=>f<=d/\d<e/\nm∈nms
 | .seats d n=>f<=d/\d<e/\0<=n/\n<=1000000
 | .word w d=>w<4/\f<=d/\d<e
 | .undo k=>k∈L
 | .grant a=>1<=a/\a<10 ^ 30
 | .back=>True
def chs(zs:List En):List Ch:=zs.map λz=>z.2.2.2
theorem v8(zs:List En)(n:Nat):chs (zs.take n)=(chs zs).take n:=List.map_take
theorem wg(zs:List En):(chs zs).length=zs.length:=Ja ..
def qK(nms:List (List Nat))(f e:Int)(zs:List En):Prop:= ∀i z,zs[i]? =some z->f<=z.2.2.1/\z.2.2.1<e/\(∀y∈zs.take i,y.2.2.1<=z.2.2.1)/\uQ nms f e (ym (chs (zs.take i))) z.2.2.2
theorem zin{i:Nat}{z:En}(h:zs[i]? =some z):ym (chs (zs.take (i+1)))=qJ i (ym (chs (zs.take i))) z.2.2.2:=by
 have hi:=(Jc.mp h).1;have e:chs (zs.take (i+1))=chs (zs.take i)++ [z.2.2.2]:=by
  unfold chs;rw[JH,h,Jd];rfl
 rw[e,kC,wg,JB,Nat.min_eq_left 'o']
theorem qK.nil{f:Int}:qK nms f e []:=λi z h=>by rw[List.getElem?_nil] at h;cases h
theorem qK.snoc{f:Int}{z:En}(h:qK nms f e zs)(h1:f<=z.2.2.1)(h2:z.2.2.1<e)(h3: ∀y∈zs,y.2.2.1<=z.2.2.1)(h4:uQ nms f e (ym (chs zs)) z.2.2.2):qK nms f e (zs++ [z]):=λi y hy=>by
 by_cases hi:i<zs.length
 ·rw[List.getElem?_append_left hi] at hy;rw[List.take_append_of_le_length 'o'];exact h i y hy
 ·rw[List.getElem?_append_right 'o'] at hy;have e0:i=zs.length:=by
   have:=(Jc.mp hy).1;rw[List.length_singleton] at this;omega
  subst e0;rw[Nat.sub_self] at hy;cases hy;rw[List.take_append_of_le_length (Je _),JC];exact⟨h1,h2,h3,h4⟩
theorem zhu{p m:Addr}{xs ws:List V}(h:SqT K H p xs)(e:H l=some (.lst ys))(e2:H m=some (.lst ws))(k: ∀b o,b≠l->b≠m->H b=some o->H' b=some o):SqT K H' p xs:=by
 rcases h with(h|⟨ob,h⟩)|h
 ·exact .inl (.inl (k _ _ (λz=>by rw[z,e] at h;cases h) (λz=>by rw[z,e2] at h;cases h) h))
 ·exact .inl (.inr ⟨ob,k _ _ (λz=>by rw[z,e] at h;cases h) (λz=>by rw[z,e2] at h;cases h) h⟩)
 ·exact .inr h
structure EnInv (K:Fg) (H0 H:Hp) (le ll:Addr) (nms:List (List Nat)) (f e:Int) (zs:List En):Prop where
 same:zk H0 H
 n1:H0 le=none
 n2:H0 ll=none
 ne:le≠ll
 e1:H le=some (.lst (zs.map (·.1)))
 e2:H ll=some (.lst ((ym (chs zs)).map V.int))
 at':yE K H zs
 ok:qK nms f e zs
def chW:Ch->List Nat
 | .plan _ _=> [112,108,97,110]
 | .seats _ _=> [115,101,97,116,115]
 | .word w _=>qV w
 | .undo _=> [117,110,100,111]
 | .grant _=> [103,114,97,110,116]
 | .back=> [98,97,99,107]
theorem zhv(c:Ch): ∃r,(chD c).map sv= .str (SL (chW c))::r:=by
 cases c<;>exact⟨_,rfl⟩
theorem zk9(c:Ch):all2 (Dp K H n) (chD c) ((chD c).map sv):=by
 cases c with
 |plan d nm=>exact⟨qH,y6,qH,trivial⟩
 |seats d m=>exact⟨qH,y6,y6,trivial⟩
 |word w d=>exact⟨qH,y6,trivial⟩
 |undo k=>exact⟨qH,y6,trivial⟩
 |grant a=>exact⟨qH,y6,trivial⟩
 |back=>exact⟨qH,trivial⟩
theorem yE.all2{K:Fg}{H:Hp}: ∀{zs:List En},yE K H zs->all2 (Dp K H 2) (zs.map enD) (zs.map (·.1))
 | [],_=>trivial
 |z::r,h=>by
  obtain⟨p,e,q1,q2⟩:=h z Jq;refine⟨?_,yE.all2 λy hy=>h y (Jl _ hy)⟩;show Dp K H 2 (enD z) z.1;rw[e];exact xh q1 ⟨y6,xh q2 (zk9 _),trivial⟩
section
variable {X:Cx} {pins:List (Addr×Obj)} {σ:St} {H H':Hp} {s:Shared} {h':Heap} {t':Nat}
theorem Inv.laidAll(I:Inv X pins σ H s)(k: ∀b o,s.heap.get? b=some o->h'.get? b=some o)(ext: ∀b u,H b=some u->H' b=some u)(new: ∀b u,H' b=some u->H b=none->s.heap.objs.size<=b/\z6 X.prog X.w H' h' b u):
  Inv X pins σ H' {s with heap:=h',toks:=t'}:=by
 refine I.step (g':=s.gens) (d':=s.drawn) (ch:= []) (λb hb=>(nomatch hb)) (λb o _ _ hc e _=>k b o e) (λb o _ _ hc e _=>⟨o.slots,k b o e⟩)
  (λb u _ e n=> ?_)
  (λb o hc e=>⟨o,k b o e⟩) (λb xs e=>ext _ _ e) (λb o u e=>ext _ _ e) (λb ps e=>⟨#[],by rw[ext _ _ e];simp⟩) (λm hm=> ?_) (λb u e=> ?_) I.bare
 ·rcases q:H' b with _|v
  ·rfl
  ·exact absurd (Qb e) (Nat.not_lt.mpr (new b v q n).1)
 ·obtain⟨o,es,ep,ho,r⟩:=hm;exact⟨o,es,ep,k _ o ho,r⟩
 ·rcases q:H b with _|v
  ·exact(new b u e q).2
  ·have e2:=ext b v q;rw[e] at e2;cases e2;exact(I.hok b u q).stay (λc v hc q=>k c v q) (λc q=>ext _ _ q) λc xs q=>ext _ _ q
end
def qD:List Addr->List (Key×V)->Hp->Hp
 |a::as,kv::kvs,H=>upd (qD as kvs H) a (.tup [kV kv.1,kv.2])
 |_,_,H=>H
theorem zfe{H:Hp}{b:Addr}: ∀{as:List Addr} {kvs:List (Key×V)},b∉as->qD as kvs H b=H b
 | [],_,_=>by unfold qD;rfl
 |_::_, [],_=>by unfold qD;rfl
 |a::as,kv::kvs,h=>by
  unfold qD;rw[zu (λz=>h (by rw[z];exact Jq)),zfe λz=>h (Jl _ z)]
theorem zf7{H:Hp}: ∀{as:List Addr} {kvs:List (Key×V)} {i:Nat} {p:Addr} {kv:Key×V},as.Pairwise (· < ·)->as[i]? =some p->kvs[i]? =some kv->qD as kvs H p=some (.tup [kV kv.1,kv.2])
 |a::as,kv::kvs,0,_,_,_,h1,h2=>by
  cases h1;cases h2;unfold qD;exact zF
 |a::as,kv::kvs,i+1,p,kv',hp,h1,h2=>by
  obtain⟨q1,q2⟩:=List.pairwise_cons.mp hp;have h1':as[i]? =some p:=by simpa using h1
  unfold qD;rw[zu (Nat.ne_of_gt (q1 p (Ji h1')))];exact zf7 q2 h1' (by simpa using h2)
theorem zf8{H:Hp}{b:Addr}{u:HO}: ∀{as:List Addr} {kvs:List (Key×V)},as.Pairwise (· < ·)->qD as kvs H b=some u->H b=some u\/ ∃(i:Nat) (kv:Key×V),as[i]? =some b/\kvs[i]? =some kv/\u= .tup [kV kv.1,kv.2]
 | [],_,_,h=>by unfold qD at h;exact .inl h
 |_::_, [],_,h=>by unfold qD at h;exact .inl h
 |a::as,kv::kvs,hp,h=>by
  unfold qD at h;by_cases e:b=a
  ·subst e;rw[zF] at h;exact .inr ⟨0,kv,rfl,rfl,(JV h).symm⟩
  ·rw[zu e] at h;rcases zf8 (List.pairwise_cons.mp hp).2 h with q|⟨i,kv',q1,q2,q3⟩
   ·exact .inl q
   ·exact .inr ⟨i+1,kv',by simpa using q1,by simpa using q2,q3⟩
theorem zm1{kvs:List (Key×V)}{vs:List (Key×Value)}(h:KV kvs vs): ∀{i:Nat} {kv:Key×V} {k:Key} {y:Value},kvs[i]? =some kv->vs[i]? =some (k,y)->kv.1=k/\zw kv.2 y:=by
 unfold KV at h;induction h with
 |nil=>intro i kv k y h1;rw[List.getElem?_nil] at h1;cases h1
 |cons r t ih=>
  intro i kv k y h1 h2;cases i with
  |zero=>cases h1;cases h2;exact r
  |succ i=>exact ih (i:=i) (by simpa using h1) (by simpa using h2)
theorem zff: ∀as:List Addr,zB (as.map V.ref) (as.map Value.ref)
 | []=> .nil
 |_::r=> .cons rfl (zff r)
def zla(td:TE):TE:=λσ H Q=>td σ H λx H1=> ∃a kvs,x= .ref a/\H1 a=some (.dK kvs)/\ ∀l H2 (as:List Addr),H1 l=none->zk H1 H2->as.length=kvs.length->(∀(i:Nat) (kv:Key×V) (p:Addr),kvs[i]? =some kv->as[i]? =some p->H2 p=some (.tup [kV kv.1,kv.2]))->H2 l=some (.lst (as.map V.ref))->Q (.ref l) H2
theorem zgL{o:Expr}{td:TE}{p pos ap cp:Pos}(hc:X.calm=true)(hg:Gl X "list")(hm:X.mg "list"=none)(ho:PE X o td)(hb:attributeBase o "items" X.env (eval o X.env)=eval o X.env)(hline:(ap.endLine==cp.line)=true):
  PE X (.Call (.Name "list" p) [.Call (.Attribute o "items" ap) [] [] cp] [] pos) (zla td):=by
 intro pins s σ H Q I h;refine wpAny_Call_Name_kw (wF I hg hm uC ?_ 'd' 'd');refine PyProof.Rows.callWith_type1 ?_ yI rfl;show wpAny _ _ (spliced ((false,eval (.Call (.Attribute o "items" ap) [] [] cp) X.env)::backTo pos (starEach [] X.env))) _ _ s;refine Calls.spliced_cons ?_;refine wpAny_Call_method (T:="dict") (id:="dict.items") hb rfl hline PySem.F.plainAttrs_dict PySem.F.slot_dict_items PySem.F.type_dict_items (thn (ho pins s σ H _ I h) λu s1 ⟨x,H1,I1,rx,a,kvs,ex,ea,q⟩=> ?_);subst ex;obtain rfl:u=Value.ref a:=rx;obtain⟨z,hd,vs,rel,dd⟩:=uJ I1.hok ea;refine⟨dd.typeIs,dd.mapOf.noDict,?_⟩;show wpAny _ _ (callWith cp (.builtin "dict.items") [.ref a] [] []) _ _ s1;refine method_meetsIn PySem.F.slot_dict_items PySem.F.entry_dict_items rfl (PySem.evalArgs_none ⟨rfl,dd.typeIs,PySem.F.args_dict_items_1 _,_,meets_dict_items _ a hd,⟨vs,dd⟩,?_⟩);refine Calls.spliced_nil ?_;obtain⟨ep,hat⟩:=dd.dictAt;have kp0: ∀b o,s1.heap.get? b=some o->(s1.heap.push {cls:= .type "dict_items",data:= .fields #[.ref a]}).get? b=some o:=λb o e=>Qa _ e;refine PySem.W.kdx_call (knd:=yy X.prog X.w) (kvs:=vs) (ep:=ep) (I.ok.hd hc) ⟨_,Qc _ rfl,rfl,rfl⟩ (hat.at' λo e=>Qa _ e) (by rw[<-rel.length];exact z) λh' tk acc c as hk hS hl hG hacc=> ?_;obtain⟨l,hl0⟩: ∃l,l=s1.heap.objs.size+1:=⟨_,rfl⟩
 have el:(s1.heap.push {cls:= .type "dict_items",data:= .fields #[.ref a]}).objs.size=l:=by rw[Heap.size_push,hl0]
 replace hS:h'.get? l=some {cls:= .type "list",dict:=none,data:= .seq acc c,slots:= #[]}:=by rw[<-el];exact hS
 replace hG:PySem.W.KdxG (yy X.prog X.w) vs l h' as:=by rw[<-el];exact hG
 have kp: ∀b o,s1.heap.get? b=some o->h'.get? b=some o:=λb o e=>hk b o (kp0 b o e);have lkv:as.length=kvs.length:=hl.trans (show kvs.length=vs.length from rel.length).symm;have la:l∉as:=λm=>Nat.lt_irrefl _ (hG.above l m);have fresh: ∀b,s1.heap.objs.size<=b->H1 b=none:=λb hb=>I1.hok.fresh hb;have ext: ∀b u,H1 b=some u->upd (qD as kvs H1) l (.lst (as.map V.ref)) b=some u:=λb u e=>by
  have b1:b≠l:=λz=>by rw[z,fresh l 'o'] at e;cases e
  have b2:b∉as:=λm=>by rw[fresh b (Nat.le_of_lt (Nat.lt_trans (hl0 ▸ Nat.lt_succ_self _) (hG.above b m)))] at e;cases e
  rw[zu b1,zfe b2];exact e
 have new: ∀b u,upd (qD as kvs H1) l (.lst (as.map V.ref)) b=some u->H1 b=none->s1.heap.objs.size<=b/\z6 X.prog X.w (upd (qD as kvs H1) l (.lst (as.map V.ref))) h' b u:=λb u e n=>by
  by_cases b1:b=l
  ·subst b1;rw[zF] at e;cases e;refine⟨'o',show z6 X.prog X.w _ h' _ (.lst (as.map V.ref)) from⟨by rw[Ja,lkv];exact z,as.map Value.ref,c,zff as,?_⟩⟩;rw[<-hacc,Array.toArray_toList];exact hS
  ·rw[zu b1] at e;rcases zf8 hG.rise e with e1|⟨i,kv,q1,q2,rfl⟩
   ·rw[n] at e1;cases e1
   ·obtain⟨key,k,x,v1,v2,v3⟩:=hG.pairs i b q1;obtain⟨r1,r2⟩:=zm1 rel q2 v1;have rk:zw (kV kv.1) key:=by
     rw[r1];rcases xq v2 with⟨j,t,rfl,ej⟩|⟨y,t,rfl,ej⟩
     ·rw[ej];exact⟨t,rfl⟩
     ·rw[ej];exact⟨t,rfl⟩
    refine⟨Nat.le_of_lt (Nat.lt_trans (hl0 ▸ Nat.lt_succ_self _) (hG.above b (Ji q1))),show z6 X.prog X.w _ h' _ (.tup [kV kv.1,kv.2]) from⟨qB (by simp), [key,x], .cons rk (.cons r2 .nil),⟨_,v3,rfl,_,rfl⟩⟩⟩
 have ev:(s1.heap.push {cls:= .type "dict_items",data:= .fields #[.ref a]}).objs.size=l:=el;show EP X pins σ Q (Value.ref (s1.heap.push {cls:= .type "dict_items",data:= .fields #[.ref a]}).objs.size) {s1 with heap:=h',toks:=tk};rw[ev];exact⟨.ref l,_,I1.laidAll (t':=tk) kp ext new,rfl,q l _ as (fresh l 'o') ext lkv (λi kv p' h1 h2=>by rw[zu (λz=>la (by rw[<-z];exact Ji h2))];exact zf7 hG.rise h2 h1) zF⟩
def enL(mo:Int)(z:En):Bool:=decide (z.2.2.1<=mo)
def mOf(zs:List En)(mo:Int):Nat:=(zs.filter (enL mo)).length
theorem zfg(mo:Int): ∀{zs:List En},zs.Pairwise (λa b=>a.2.2.1<=b.2.2.1)->zs.filter (enL mo)=zs.take (mOf zs mo)/\ ∀(j:Nat) (z:En),zs[j]? =some z->(z.2.2.1<=mo↔j<mOf zs mo)
 | [],_=>⟨rfl,λj z h=>by rw[List.getElem?_nil] at h;cases h⟩
 |z::r,h=>by
  obtain⟨h1,h2⟩:=List.pairwise_cons.mp h;obtain⟨e,ih⟩:=zfg mo h2;unfold mOf at e ih ⊢;by_cases q:z.2.2.1<=mo
  ·rw[List.filter_cons_of_pos (show enL mo z=true from JO q),Jp];refine⟨by rw[List.take_succ_cons,<-e],λj y hy=> ?_⟩;cases j with
   |zero=>cases hy;exact⟨λ_=>Nat.succ_pos _,λ_=>q⟩
   |succ j=>
    have:=ih j y (by simpa using hy);rw[this];omega
  ·rw[List.filter_cons_of_neg (show¬enL mo z=true from by unfold enL;simpa using q)];have nil:r.filter (enL mo)= []:=by
    rw[List.filter_eq_nil_iff];intro y hy
    have:=h1 y hy;unfold enL;simp only[decide_eq_true_eq];omega
   rw[nil];refine⟨rfl,λj y hy=>⟨λle=> ?_,λz0=>absurd z0 (Nat.not_lt_zero _)⟩⟩;cases j with
   |zero=>cases hy;exact absurd le q
   |succ j=>
    have:=h1 y (Ji (show r[j]? =some y by simpa using hy));omega
theorem qK.pair{f:Int}(h:qK nms f e zs):zs.Pairwise (λa b=>a.2.2.1<=b.2.2.1):=by
 rw[List.pairwise_iff_getElem];intro i j hi hj lt;refine(h j zs[j] (Jb hj)).2.2.1 zs[i] ?_;rw[List.mem_take_iff_getElem];exact⟨i,'o',rfl⟩
def yc:List Ch->List Int
 | []=> []
 | .undo k::r=>k::yc r
 |_::r=>yc r
theorem zeA: ∀a b:List Ch,yc (a++b)=yc a++yc b
 | [],_=>rfl
 |c::r,b=>by
  have ih:=zeA r b;cases c with
  |undo k=>show k::yc (r++b)=k::yc r++yc b;rw[ih];rfl
  |plan=>exact ih
  |seats=>exact ih
  |word=>exact ih
  |grant=>exact ih
  |back=>exact ih
def xO(o:Option Ch):Bool:=(o.map yL).getD false
def wj(cs:List Ch)(gs:List Int)(n:Nat):List Int:=((List.range n).filter (λj:Nat=>xO cs[j]? && !decide ((j:Int)∈gs))).map λj:Nat=>(j:Int)
theorem zlb(cs:List Ch)(gs:List Int)(n:Nat):wj cs gs (n+1)=wj cs gs n++(if (xO cs[n]? && !decide ((n:Int)∈gs))=true then [(n:Int)] else []):=by
 unfold wj;rw[JQ,JT,Jd];congr 1;by_cases h:(xO cs[n]? && !decide ((n:Int)∈gs))=true
 ·rw[Jg h,JU];exact congrArg (List.map _) (Jg h)
 ·rw[Jf h,JU];exact congrArg (List.map _) (Jf h)
def xj(cs:List Ch):Prop:= ∀(i:Nat) (k:Int),cs[i]? =some (.undo k)->k∈ym (cs.take i)
theorem xj.take{cs:List Ch}(h:xj cs)(n:Nat):xj (cs.take n):=λi k hi=>by
 rw[List.getElem?_take] at hi;split at hi
 ·rw[List.take_take,Nat.min_eq_left 'o'];exact h i k hi
 ·cases hi
theorem zf9(cs:List Ch)(ok:xj cs): ∀n,n<=cs.length->ym (cs.take n)=wj cs (yc (cs.take n)) n/\ ∀k∈yc (cs.take n),k<n
 |0,_=>by
  rw[List.take_zero];exact⟨rfl,λk h=>(nomatch h)⟩
 |n+1,h=>by
  obtain⟨ih,lt⟩:=zf9 cs ok n 'o';obtain⟨c,hc⟩: ∃c,cs[n]? =some c:=⟨cs[n],Jb 'o'⟩
  have et:cs.take (n+1)=cs.take n++ [c]:=by rw[JH,hc];rfl
  have ln:(cs.take n).length=n:=by rw[JB];omega
  have sn:ym (cs.take (n+1))=qJ n (ym (cs.take n)) c:=by rw[et,kC,ln]
  have gn:yc (cs.take (n+1))=yc (cs.take n)++yc [c]:=by rw[et,zeA]
  rw[sn,gn,zlb,hc];have nin:(n:Int)∉yc (cs.take n):=λz=>by have:=lt _ z;omega
  have up: ∀k∈yc (cs.take n),k<((n+1:Nat):Int):=λk hk=>by have:=lt k hk;omega
  have term:yL c=true->yc [c]= []->qJ n (ym (cs.take n)) c=ym (cs.take n)++ [(n:Int)]->qJ n (ym (cs.take n)) c=wj cs (yc (cs.take n)++yc [c]) n++(if (xO (some c) && !decide ((n:Int)∈yc (cs.take n)++yc [c]))=true then [(n:Int)] else [])/\ ∀k∈yc (cs.take n)++yc [c],k<((n+1:Nat):Int):=λh1 h2 h3=>by
   rw[h2,Jt,h3,ih];refine⟨?_,up⟩;rw[Jg (by show (yL c && !decide _)=true;rw[h1,JP nin];rfl)]
  have other:yL c=false->yc [c]= []->qJ n (ym (cs.take n)) c=ym (cs.take n)->qJ n (ym (cs.take n)) c=wj cs (yc (cs.take n)++yc [c]) n++(if (xO (some c) && !decide ((n:Int)∈yc (cs.take n)++yc [c]))=true then [(n:Int)] else [])/\ ∀k∈yc (cs.take n)++yc [c],k<((n+1:Nat):Int):=λh1 h2 h3=>by
   rw[h2,Jt,h3,ih];refine⟨?_,up⟩;rw[Jf (by show¬(yL c && _)=true;rw[h1,Bool.false_and];exact Ju),Jt]
  cases c with
  |plan=>exact term rfl rfl rfl
  |seats=>exact term rfl rfl rfl
  |word=>exact term rfl rfl rfl
  |grant=>exact other rfl rfl rfl
  |back=>exact other rfl rfl rfl
  |undo k=>
   have hk:=ok n k hc;have nd:=(wP (cs.take n)).1;have kb:=(wP (cs.take n)).2 k hk;rw[ln] at kb;refine⟨?_,λk' hk'=> ?_⟩
   ·rw[Jf (by show¬(false && _)=true;rw[Bool.false_and];exact Ju),Jt];show (ym (cs.take n)).erase k=_;rw[nd.erase_eq_filter,ih];unfold wj;rw[List.filter_map,List.filter_filter];congr 1;refine List.filter_congr λj _=> ?_;show ((j:Int) !=k && (xO cs[j]? && !decide ((j:Int)∈yc (cs.take n))))=(xO cs[j]? && !decide ((j:Int)∈yc (cs.take n)++ [k]));have e1:decide ((j:Int)∈yc (cs.take n)++ [k])=(decide ((j:Int)∈yc (cs.take n))||decide ((j:Int)=k)):=by
     rw[Bool.eq_iff_iff,decide_eq_true_eq,Bool.or_eq_true,decide_eq_true_eq,decide_eq_true_eq,Jr,Jm]
    rw[e1];have e2:((j:Int) !=k)= !decide ((j:Int)=k):=by
     rw[bne,Bool.beq_eq_decide_eq]
    rw[e2];cases xO cs[j]? <;>cases decide ((j:Int)∈yc (cs.take n))<;>cases decide ((j:Int)=k)<;>rfl
   ·rcases Jr.mp hk' with q|q
    ·exact up _ q
    ·have:k'=k:=Jm.mp q;omega
end L2
namespace L2.So
open PySem PySem.W PyProof.Rows
variable{α:Type}{n i m:Nat}{r:Nat->Int}
def Ev(n:Nat)(r:Nat->Int){α:Type}:KasT α->(α->Prop)->Prop
 | .ret a,Q=>Q a
 | .ask i j k,Q=>(i<n/\j<n/\i≠j)/\Ev n r (k (decide (r i<r j))) Q
theorem Ev.bind{n:Nat}{r:Nat->Int}{α β:Type}{f:α->KasT β}{Q:β->Prop}: ∀{t:KasT α},Ev n r t (λa=>Ev n r (f a) Q)->Ev n r (t.bind f) Q
 | .ret _,h=>h
 | .ask _ _ k,h=>⟨h.1,Ev.bind (t:=k _) h.2⟩
theorem Ev.mono{n:Nat}{r:Nat->Int}{α:Type}{Q Q':α->Prop}(hq: ∀a,Q a->Q' a): ∀{t:KasT α},Ev n r t Q->Ev n r t Q'
 | .ret a,h=>hq a h
 | .ask _ _ k,h=>⟨h.1,Ev.mono hq (t:=k _) h.2⟩
theorem Ev.wp{n:Nat}{r:Nat->Int}{α:Type}{cmp:Nat->Nat->(Bool->Shared->Prop)->Shared->Prop}{s:Shared}(hc: ∀i j C,i<n->j<n->i≠j->C (decide (r i<r j)) s->cmp i j C s){Q:α->Prop}{G:α->Shared->Prop}(hq: ∀a,Q a->G a s): ∀{t:KasT α},Ev n r t Q->t.kasWp cmp G s
 | .ret a,h=>hq a h
 | .ask i j k,h=>hc i j _ h.1.1 h.1.2.1 h.1.2.2 (Ev.wp hc hq (t:=k _) h.2)
theorem Ev.yes{j:Nat}{k:Bool->KasT α}{Q:α->Prop}(hi:i<n)(hj:j<n)(h:r i<r j)(e:Ev n r (k true) Q):Ev n r (.ask i j k) Q:=⟨⟨hi,hj,λz=>by rw[z] at h;omega⟩,by rw[JO h];exact e⟩
theorem Ev.no{j:Nat}{k:Bool->KasT α}{Q:α->Prop}(hi:i<n)(hj:j<n)(hn:i≠j)(h: ¬r i<r j)(e:Ev n r (k false) Q):Ev n r (.ask i j k) Q:=⟨⟨hi,hj,hn⟩,by rw[JP h];exact e⟩
def fv(r:Nat->Int)(p:Array Nat)(k:Nat):Int:=r (p.getD k 0)
def Ok(n:Nat)(p:Array Nat):Prop:=p.Perm (List.range n).toArray
def Up(r:Nat->Int)(p:Array Nat)(m:Nat):Prop:= ∀i j,i<j->j<m->fv r p i<fv r p j
def Dn(r:Nat->Int)(p:Array Nat)(m:Nat):Prop:= ∀i j,i<j->j<m->fv r p j<fv r p i
theorem Ok.size{n:Nat}{p:Array Nat}(h:Ok n p):p.size=n:=by
 have:=h.size_eq;simpa using this
theorem Ok.lt{p:Array Nat}(h:Ok n p){k:Nat}(hk:k<n):p.getD k 0<n:=by
 have hs:=h.size;have e:p.getD k 0=p[k]:=by simp [Array.getD,hs,hk]
 have m:p[k]∈p:=Array.getElem_mem _;rw[e]
 have:=(h.mem_iff).mp m;simpa using this
theorem Ok.ne{p:Array Nat}(h:Ok n p){j:Nat}(hij:i<j)(hj:j<n):p.getD i 0≠p.getD j 0:=by
 have hs:=h.size;have e1:p.getD i 0=p.toList[i]'(by simp;omega):=by simp [Array.getD,hs,show i<n by omega]
 have e2:p.getD j 0=p.toList[j]'(by simp;omega):=by simp [Array.getD,hs,hj]
 have nd:p.toList.Nodup:=(h.toList.nodup_iff).mpr (by simpa using List.nodup_range);rw[e1,e2];exact List.pairwise_iff_getElem.mp nd i j _ _ hij
def Inj(n:Nat)(r:Nat->Int):Prop:= ∀i j,i<n->j<n->i≠j->r i≠r j
theorem Ok.fne(hr:Inj n r){p:Array Nat}(h:Ok n p){j:Nat}(hij:i<j)(hj:j<n):fv r p i≠fv r p j:=hr _ _ (h.lt 'o') (h.lt hj) (h.ne hij hj)
theorem Up.one{p:Array Nat}(h:Up r p m)(h1:1<=m)(hl:fv r p (m - 1)<fv r p m):Up r p (m+1):=λi j hij hj=>by
 by_cases e:j=m
 ·subst e;by_cases e2:i=j - 1
  ·rw[e2];exact hl
  ·exact Int.lt_trans (h i (j - 1) 'o' 'o') hl
 ·exact h i j hij 'o'
theorem Dn.one{p:Array Nat}(h:Dn r p m)(h1:1<=m)(hl:fv r p m<fv r p (m - 1)):Dn r p (m+1):=λi j hij hj=>by
 by_cases e:j=m
 ·subst e;by_cases e2:i=j - 1
  ·rw[e2];exact hl
  ·exact Int.lt_trans hl (h i (j - 1) 'o' 'o')
 ·exact h i j hij 'o'
section
variable {n:Nat} {r:Nat->Int} (hr:Inj n r)
include hr
theorem kF{p:Array Nat}(ho:Ok n p): ∀(f m:Nat),m+f=n->1<=m->Up r p m->Ev n r (kas_asc p f m) (λx=>1<=x/\m<=x/\x<=n/\Up r p x/\(x=n\/fv r p x<fv r p (x - 1)))
 |0,m,hm,h1,hu=>⟨h1,Je _,'o',hu, .inl 'o'⟩
 |f+1,m,hm,h1,hu=>by
  unfold kas_asc;by_cases c:fv r p m<fv r p (m - 1)
  ·refine Ev.yes (ho.lt 'o') (ho.lt 'o') c ?_;rw[Jg rfl];exact⟨h1,Je _,'o',hu, .inr c⟩
  ·refine Ev.no (ho.lt 'o') (ho.lt 'o') (ho.ne 'o' 'o').symm c ?_;rw[Jf 'd']
   have:=ho.fne hr (i:=m - 1) (j:=m) 'o' 'o';exact(kF ho f (m+1) 'o' 'o' (hu.one h1 'o')).mono λx h=>⟨h.1,'o',h.2.2⟩
theorem znQ{p:Array Nat}(ho:Ok n p): ∀(f m:Nat),m+f=n->1<=m->Dn r p m->Ev n r (kas_desc f p m 0) (λx=>x.1=p/\x.2.2=0/\m<=x.2.1/\x.2.1<=n/\Dn r p x.2.1)
 |0,m,hm,h1,hu=>⟨rfl,rfl,Je _,by show m<=n;omega,hu⟩
 |f+1,m,hm,h1,hu=>by
  unfold kas_desc;by_cases c:fv r p m<fv r p (m - 1)
  ·refine Ev.yes (ho.lt 'o') (ho.lt 'o') c ?_;rw[Jg rfl,Jf 'd'];exact(znQ ho f (m+1) 'o' 'o' (hu.one h1 c)).mono λx h=>⟨h.1,h.2.1,'o',h.2.2.2⟩
  ·have:=ho.fne hr (i:=m - 1) (j:=m) 'o' 'o';refine Ev.no (ho.lt 'o') (ho.lt 'o') (ho.ne 'o' 'o').symm c ?_;rw[Jf 'd'];refine Ev.yes (ho.lt 'o') (ho.lt 'o') (show fv r p (m - 1)<fv r p m by omega) ?_;rw[Jg rfl];exact⟨rfl,rfl,Je _,by show m<=n;omega,hu⟩
theorem zlc{p:Array Nat}(ho:Ok n p)(i j:Nat):Ok n (kas_rev p i j):=(mirror_perm p i j _).trans ho
theorem zld{p:Array Nat}(ho:Ok n p)(hm:m<=n){k:Nat}(hk:k<m):fv r (kas_rev p 0 m) k=fv r p (m - 1 - k):=by
 have e:=getElem?_mirror_all (xs:=p) (i:=0) (j:=m) (by rw[ho.size];exact hm) k;rw[Jg ⟨'o',hk⟩] at e;unfold fv kas_rev;rw[Array.getD_eq_getD_getElem?,Array.getD_eq_getD_getElem?,e,Nat.zero_add]
theorem zqi{p:Array Nat}(ho:Ok n p)(h1:1<=m)(hm:m<=n)(hd:Dn r p m):Ev n r (kas_tail3 m n p) (λx=>1<=x.1/\x.1<=n/\Ok n x.2/\Up r x.2 x.1):=by
 unfold kas_tail3;refine Ev.bind ((kF hr (zlc hr ho 0 m) (n - m) m 'o' h1 λi j hij hj=> ?_).mono λx h=>⟨h.1,h.2.2.1,zlc hr ho 0 m,h.2.2.2.1⟩);rw[zld hr ho hm 'o',zld hr ho hm hj];exact hd _ _ 'o' 'o'
theorem zoI{p:Array Nat}(ho:Ok n p)(h1:1<=n):Ev n r (kas_count n p) (λx=>1<=x.1/\x.1<=n/\Ok n x.2/\Up r x.2 x.1):=by
 unfold kas_count;refine Ev.bind ((kF hr ho (n - 1) 1 'o' (Je _) λi j hij hj=>by omega).mono λx h=> ?_);obtain⟨a1,_,a2,hu,hx⟩:=h;by_cases e:x=n
 ·rw[Jg (by simp [e])];exact⟨a1,a2,ho,hu⟩
 rw[Jf (by simp [e])];by_cases e1:x>1
 ·rw[Jg e1];refine Ev.yes (ho.lt 'o') (ho.lt 'o') (hu 0 (x - 1) 'o' 'o') ?_;rw[Jg rfl];exact⟨a1,a2,ho,hu⟩
 rw[Jf e1];obtain rfl:x=1:=by omega
 have c:fv r p 1<fv r p 0:=hx.resolve_left e;unfold kas_descPart;refine Ev.bind ((znQ hr ho (n - 2) 2 'o' 'o' λi j hij hj=> ?_).mono λy h=> ?_)
 ·obtain rfl:i=0:=by omega
  obtain rfl:j=1:=by omega
  exact c
 ·obtain⟨y1,y2,y3⟩:=y;obtain⟨b1,b2,b3,b4,b5⟩:=h;dsimp only at b1 b2 b3 b4 b5 ⊢;subst b1 b2;rw[Jf 'd'];exact zqi hr ho 'o' b4 b5
theorem kG{p:Array Nat}(ho:Ok n p){k:Nat}(hk:k<n)(hu:Up r p k): ∀(f a b:Nat),b - a<=f->a<=b->b<=k->(∀i,i<a->fv r p i<fv r p k)->(∀i,b<=i->i<k->fv r p k<fv r p i)->Ev n r (kas_place p k f a b) (λl=>l<=k/\(∀i,i<l->fv r p i<fv r p k)/\ ∀i,l<=i->i<k->fv r p k<fv r p i)
 |0,a,b,hf,ab,bk,h1,h2=>by
  obtain rfl:a=b:=by omega
  exact⟨bk,h1,h2⟩
 |f+1,a,b,hf,ab,bk,h1,h2=>by
  unfold kas_place;by_cases e:a≥b
  ·rw[Jg e];obtain rfl:a=b:=by omega
   exact⟨bk,h1,h2⟩
  rw[Jf e];by_cases c:fv r p k<fv r p ((a+b) / 2)
  ·refine Ev.yes (ho.lt hk) (ho.lt 'o') c ?_;rw[Jg rfl];refine kG ho hk hu f a ((a+b) / 2) 'o' 'o' 'o' h1 λi hi ik=> ?_;by_cases z:i=(a+b) / 2
   ·rw[z];exact c
   ·exact Int.lt_trans c (hu _ _ 'o' ik)
  ·refine Ev.no (ho.lt hk) (ho.lt 'o') (ho.ne 'o' hk).symm c ?_;rw[Jf 'd']
   have:=ho.fne hr (i:=(a+b) / 2) (j:=k) 'o' hk;refine kG ho hk hu f ((a+b) / 2+1) b 'o' 'o' bk (λi hi=> ?_) h2;by_cases z:i=(a+b) / 2
   ·rw[z];omega
   ·exact Int.lt_trans (hu i ((a+b) / 2) 'o' 'o') 'o'
theorem zqj: ∀(f k:Nat) {p:Array Nat},Ok n p->k+f=n->Up r p k->Ev n r (kas_bin f p k) (λq=>Ok n q/\Up r q n)
 |0,k,p,ho,hk,hu=>⟨ho,by
  obtain rfl:k=n:=by omega
  exact hu⟩
 |f+1,k,p,ho,hk,hu=>by
  unfold kas_bin;refine Ev.bind ((kG hr ho 'o' hu k 0 k 'o' 'o' (Je _) (λi hi=>by omega) λi h1 h2=>by omega).mono λl h=> ?_);obtain⟨lk,h1,h2⟩:=h;have ho':Ok n (bubble p k (k - l)):=(bubble_perm p k _).trans ho;refine zqj f (k+1) ho' 'o' λi j hij hj=> ?_;have at_: ∀x,fv r (bubble p k (k - l)) x=if x=l then fv r p k else if l<x/\x<=k then fv r p (x - 1) else fv r p x:=λx=>by
   have e:=getElem?_bubble (xs:=p) (src:=k) (by rw[ho.size];omega) (k - l) 'o' x;rw[show k - (k - l)=l by omega] at e;unfold fv;rw[Array.getD_eq_getD_getElem?,e];by_cases z1:x=l
   ·rw[Jg z1,Jg z1,Array.getD_eq_getD_getElem?]
   ·rw[Jf z1,Jf z1];by_cases z2:l<x/\x<=k
    ·rw[Jg z2,Jg z2,Array.getD_eq_getD_getElem?]
    ·rw[Jf z2,Jf z2,Array.getD_eq_getD_getElem?]
  rw[at_,at_];by_cases z1:i=l
  ·rw[Jg z1,Jf 'o',Jg 'o'];exact h2 _ 'o' 'o'
  ·rw[Jf z1];by_cases z2:l<i
   ·rw[Jg 'o',Jf 'o',Jg 'o'];exact hu _ _ 'o' 'o'
   ·rw[Jf 'o'];by_cases z3:j=l
    ·rw[Jg z3];exact h1 i 'o'
    ·rw[Jf z3];by_cases z4:l<j
     ·rw[Jg 'o'];exact hu _ _ 'o' 'o'
     ·rw[Jf 'o'];exact hu _ _ hij 'o'
theorem zqk(h1:1<=n):Ev n r (kas_sort n) (λp=>Ok n p/\Up r p n):=by
 unfold kas_sort;refine Ev.bind ((zoI hr (Array.Perm.refl _) h1).mono λx h=> ?_);obtain⟨a1,a2,ho,hu⟩:=h;by_cases e:x.1<n
 ·rw[Jg e,Nat.max_eq_left a1];exact zqj hr (n - x.1) x.1 ho 'o' hu
 ·rw[Jf e];obtain e2:x.1=n:=by omega
  rw[e2] at hu;exact⟨ho,hu⟩
end
end L2.So
namespace L2.So
open PySem PySem.W PySem.Calls PyProof.Rows
def Tr(h:Heap)(v:Value)(a b c:Int):Prop:= ∃ad o xs k t1 t2 t3 rest,v= .ref ad/\h.get? ad=some o/\o.cls= .type "tuple"/\o.data= .seq xs k/\xs.toList= .int a t1:: .int b t2:: .int c t3::rest
theorem Tr.keep{h h':Heap}{v:Value}{a b c:Int}(k: ∀b o,h.get? b=some o->h'.get? b=some o):Tr h v a b c->Tr h' v a b c
 |⟨ad,o,xs,n,t1,t2,t3,rest,e1,e2,r⟩=>⟨ad,o,xs,n,t1,t2,t3,rest,e1,k _ _ e2,r⟩
section
variable {prog:Program} {w:World} {A:Around} {E:Value->Shared->Prop} {s:Shared}
theorem kH{b fin:Bool}{Q:Bool->Shared->Prop}{x y:Int}{t u:Tok}{r:List (Value×Value)}{i:Nat}(h1:x=y->KatLex prog w A b fin Q r (i+1) s)(h2:x≠y->wpAny (model prog w) A (oneLt' (b && i==0) (.int x t) (.int y u)) Q (λ_ _=>False) s):KatLex prog w A b fin Q ((.int x t, .int y u)::r) i s:=by
 refine kat_cons (wpAny_eqBool_int (kat_go (λe=>kat_yes (h1 (by simpa using e))) λe=>kat_no (h2 (by simpa using e))))
theorem zql{v v':Value}{a b c a' b' c':Int}{Q:Bool->Shared->Prop}{R R':Int}(h:Tr s.heap v a b c)(h':Tr s.heap v' a' b' c')(hc:c≠c')(hR:R<R'↔a<a'\/a=a'/\(b<b'\/b=b'/\c<c'))(q:Q (decide (R<R')) s):wpAny (model prog w) A (keyLt' (tuples' true) v v') Q E s:=by
 obtain⟨ad,o,xs,n,t1,t2,t3,rest,rfl,e2,_,e4,e5⟩:=h;obtain⟨ad',o',xs',n',u1,u2,u3,rest',rfl,f2,_,f4,f5⟩:=h';refine kat_lt e2 e4 f2 f4 ?_;rw[e5,f5];refine kH (λz1=>kH (λz2=>kH (λz3=>absurd z3 hc) λz3=> ?_) λz2=> ?_) λz1=> ?_
 ·refine kat_one _ _ (PyProof.Rows.lt_int (show Q (decide (c<c')) s from ?_));rw[show (decide (c<c'))=decide (R<R') from decide_eq_decide.mpr (by rw[hR];omega)];exact q
 ·refine kat_one _ _ (PyProof.Rows.lt_int (show Q (decide (b<b')) s from ?_));rw[show (decide (b<b'))=decide (R<R') from decide_eq_decide.mpr (by rw[hR];omega)];exact q
 ·refine oneLt_int ?_;rw[show (decide (a<a'))=decide (R<R') from decide_eq_decide.mpr (by rw[hR];omega)];exact q
end
end L2.So
namespace L2.So
open PySem PySem.W PySem.Calls PyProof.Rows
variable{h:Heap}
section
variable {prog:Program} {w:World} {A:Around} {E:Value->Shared->Prop} {s:Shared} {vs:List Value} {r:Nat->Int} {ka kb kc:Nat->Int}
structure Keys (h:Heap) (vs:List Value) (r ka kb kc:Nat->Int):Prop where
 tup: ∀i,i<vs.length->Tr h (vs.getD i Value.none) (ka i) (kb i) (kc i)
 num: ∀i j,i<vs.length->j<vs.length->i≠j->kc i≠kc j
 rank: ∀i j,i<vs.length->j<vs.length->(r i<r j↔ka i<ka j\/ka i=ka j/\(kb i<kb j\/kb i=kb j/\kc i<kc j))
theorem Keys.keep{h h':Heap}(k: ∀b o,h.get? b=some o->h'.get? b=some o)(H:Keys h vs r ka kb kc):Keys h' vs r ka kb kc:=⟨λi hi=>(H.tup i hi).keep k,H.num,H.rank⟩
theorem Keys.inj(H:Keys h vs r ka kb kc):Inj vs.length r:=λi j hi hj hn e=>by
 have:=H.num i j hi hj hn;have h1:=H.rank i j hi hj;have h2:=H.rank j i hj hi;rcases Int.lt_trichotomy (kc i) (kc j) with z|z|z
 ·omega
 ·exact this z
 ·omega
theorem zi7{h:Heap}{ka kb kc:Nat->Int}: ∀(vs:List Value) (o:Nat),(∀i,i<vs.length->Tr h (vs.getD i Value.none) (ka (o+i)) (kb (o+i)) (kc (o+i)))-> ∃fs,KatTups h vs fs/\fs.length=vs.length/\ ∀v∈fs,∃x t,v=Value.int x t
 | [],_,_=>⟨[],trivial,rfl,λ_ hv=>nomatch hv⟩
 |v::vs,o,H=>by
  obtain⟨fs,h1,h2,h3⟩:=zi7 (ka:=ka) (kb:=kb) (kc:=kc) vs (o+1) λi hi=>by
   have:=H (i+1) (by rw[Jp];omega);rwa[List.getD_cons_succ,show o+(i+1)=o+1+i by omega] at this
  obtain⟨ad,ob,xs,k,t1,t2,t3,rest,e1,e2,e3,e4,e5⟩:=H 0 (by rw[Jp];omega);rw[List.getD_cons_zero] at e1;subst e1;refine⟨.int (ka (o+0)) t1::fs,KatTups.cons e2 e3 e4 ?_ h1,by rw[Jp,Jp,h2],λv hv=> ?_⟩
  ·rw[<-JG,e5];rfl
  ·rcases JD.mp hv with rfl|hv
   ·exact⟨_,_,rfl⟩
   ·exact h3 v hv
theorem zir{a:Addr}{n:Nat}{P:PySem.Fin->Shared->Prop}(ho:s.heap.get? a=some (seqObj "list" vs.toArray n))(hK:Keys s.heap vs r ka kb kc)(hna: ∀i,i<vs.length->vs.getD i Value.none≠ .ref a)(h2:2<=vs.length)(h64:vs.length<64)
  (h: ∀p:Array Nat,Ok vs.length p->Up r p vs.length->P (.done (.ret .none)) {s with heap:=sortedHeap s.heap a vs (List.toArray (p.toList.map λi=>vs.getD i Value.none))}):wpAny (model prog w) A (Builtin.«list.sort» ⟨[.ref a], []⟩) P E s:=by
 have ha:a<s.heap.objs.size:=Qb ho;obtain⟨e1,g1⟩: ∃e1,(s.heap.update a (Obj.mapSeq λ_=>(#[]:Array Value))).get? a=some (seqObj "list" #[] e1):=⟨_,get?_update_seq ho λ_=> #[]⟩
 obtain⟨h3,hh3⟩: ∃h3,h3=((s.heap.update a (Obj.mapSeq λ_=>(#[]:Array Value))).push (seqObj "tuple" vs.toArray 0)).push (seqObj "list" #[] 0):=⟨_,rfl⟩
 have g3:h3.get? a=some (seqObj "list" #[] e1):=by rw[hh3];exact Qa _ (Qa _ g1)
 have K3:Keys h3 vs r ka kb kc:=⟨λi hi=>by
  obtain⟨ad,o,xs,k,t1,t2,t3,rest,q1,q2,q3⟩:=hK.tup i hi;refine⟨ad,o,xs,k,t1,t2,t3,rest,q1,?_,q3⟩;rw[hh3];refine Qa _ (Qa _ ?_);rw[Heap.get?_update_ne _ _ _ _ λz=>hna i hi (by rw[q1,z])];exact q2,hK.num,hK.rank⟩
 rw[list_sort_plain];refine JW (listItems_at ho rfl (JW (listUpdate_at ho rfl ?_ (by rw[Jn,sizeLine_eq];omega) (Jv _))));refine JW (seqEpoch_at g1 rfl (JW (wpAny_newTuple ?_ (by show vs.length<=_;rw[sizeLine_eq];omega))));refine JW (wpAny_newList (wpAny_holding ?_) (Jv _));show wpAny (model prog w) A _ P E {s with heap:=((s.heap.update a (Obj.mapSeq λ_=> #[])).push (seqObj "tuple" vs.toArray 0)).push (seqObj "list" #[] 0)};rw[<-hh3];dsimp only;have n2: ¬vs.toArray.size<2:=by rw[Jn];omega
 rw[Jf n2,Jf n2];obtain⟨fs,f1,f2,f3⟩:=zi7 (ka:=ka) (kb:=kb) (kc:=kc) vs 0 (λi hi=>by rw[Nat.zero_add];exact K3.tup i hi);refine JW (kat_kind (s:={s with heap:=h3}) (T:= .type "int") f1 'o' (λv hv=> ?_) 'd' ?_)
 ·obtain⟨x,t,rfl⟩:=f3 v hv;exact .now
 refine JW (wpAny_mono (kat_run (Q:=λst' s'=> ∃p:Array Nat,Ok vs.length p/\Up r p vs.length/\arrOf st'=p.map (kas_item (vs.toArray.zip vs.toArray))/\failedOf st'=none/\s'={s with heap:=h3})
  (G:=λp s'=>Ok vs.length p/\Up r p vs.length/\s'={s with heap:=h3}) rfl h2 h64 (λp st' s' a1 a2 a3 a4=>⟨p,a4.1,a4.2.1,a2,a3,a4.2.2⟩) (Ev.wp (λi j C hi hj hn q=> ?_) (λp q=>⟨q.1,q.2,rfl⟩) (zqk K3.inj 'o'))) ?_ λ_ _ e=>e)
 ·exact zql (K3.tup i hi) (K3.tup j hj) (K3.num i j hi hj hn) (K3.rank i j hi hj) q
 rintro⟨⟨⟩,st'⟩ s' ⟨p,a1,a2,a3,a4,rfl⟩;dsimp only;have hout:=kat_snds rfl a3;have hsz:(List.toArray (p.toList.map λi=>vs.getD i Value.none)).size=vs.length:=by rw[Jn,Ja,Jx,a1.size]
 rw[hout];refine JW (seqEpoch_at g3 rfl (JW (listUpdate_at g3 rfl ?_ (Jv _) (JE (Nat.le_of_eq hsz) (by rw[sizeLine_eq];omega)))));rw[a4];simp only[bne_self_eq_false,Js,if_false];refine JX ?_
 have:=h p a1 a2;unfold sortedHeap at this;rw[<-hh3] at this;exact this
theorem sorted_tups{l:Addr}{Q:Value->Shared->Prop}(hl:s.heap.IsList l vs.toArray)(hK:Keys s.heap vs r ka kb kc)(h2:2<=vs.length)(h64:vs.length<64)
  (h: ∀p:Array Nat,Ok vs.length p->Up r p vs.length->Q (.ref (s.heap.objs.size+1)) {s with heap:=sortedAll s.heap vs (List.toArray (p.toList.map λi=>vs.getD i Value.none))}):wpAny (model prog w) A (call (.builtin "sorted") [.ref l]) Q E s:=by
 obtain⟨h2',hh2⟩: ∃h2',h2'=((s.heap.push (seqObj "list" #[] 0)).update s.heap.objs.size (Obj.mapSeq (· ++vs.toArray))).push (seqObj "list" vs.toArray 0):=⟨_,rfl⟩
 have hsz:((s.heap.push (seqObj "list" #[] 0)).update s.heap.objs.size (Obj.mapSeq (· ++vs.toArray))).objs.size=s.heap.objs.size+1:=by rw[Heap.size_update];exact size_push' ..
 have g2:h2'.get? (s.heap.objs.size+1)=some (seqObj "list" vs.toArray 0):=by rw[hh2,<-hsz];exact Qc _ rfl
 have keep: ∀b o,s.heap.get? b=some o->h2'.get? b=some o:=λb o q=>by
  have hlt:b<s.heap.objs.size:=Qb q;rw[hh2];refine Qa _ ?_;rw[Heap.get?_update_ne _ _ _ _ (JK hlt)];exact Qa _ q
 refine Calls.call_function_entry kind_sorted plain_sorted entry_sorted (args_sorted1 _) ?_;unfold Builtin.«sorted»;refine JW (m:=checkCount "sorted" 1 1 _) (JX (JW (collect_list hl (JW (wpAny_newList ?_ (by rw[sizeLine_eq];omega))) (by rw[sizeLine_eq];omega))));show wpAny _ _ _ _ _ {s with heap:=((s.heap.push (seqObj "list" #[] 0)).update s.heap.objs.size (Obj.mapSeq (· ++vs.toArray))).push _};rw[hsz,<-hh2];refine JW (wpAny_holding (wpAny_call_entry slot_list_sort ⟨_,g2,rfl⟩ entry_list_sort (zir (s:={s with heap:=h2'}) g2 (hK.keep keep) (λi hi z=> ?_) h2 h64 λp a1 a2=>⟨_,rfl,JX ⟨_,rfl,?_⟩⟩) (args_list_sort _)))
 ·obtain⟨ad,o,xs,k,t1,t2,t3,rest,q1,q2,q3⟩:=hK.tup i hi;rw[z] at q1;cases q1;exact absurd (Qb q2) (Nat.not_lt.mpr (Nat.le_succ _))
 ·have:=h p a1 a2;unfold sortedAll at this;rw[<-hh2] at this;exact this
end
end L2.So
namespace L2
open PySem PySem.Spec PyProof.Rows
abbrev Tz:=Addr×Int×Int×Int
def rkT(z:Tz):Int:=(z.2.1*4000000+z.2.2.1)*64+z.2.2.2
def v9(z:Tz):Prop:=(0<=z.2.1/\z.2.1<4000000)/\(0<=z.2.2.1/\z.2.2.1<4000000)/\0<=z.2.2.2/\z.2.2.2<64
theorem zga: ∀as:List Addr,zB (as.map V.ref) (as.map Value.ref)
 | []=> .nil
 |_::r=> .cons rfl (zga r)
theorem kI: ∀{zs:List Tz} {its:List Value},zB (zs.map λz=>V.ref z.1) its->its=zs.map λz=>Value.ref z.1
 | [],_,h=>by cases h;rfl
 |z::zs,_,h=>by
  cases h with
  |cons r t=>
   rw[kI t];rw[show _=Value.ref z.1 from r];rfl
theorem kJ{x:V}{xs:List V}{its:List Value}(h:zB (x::xs) its): ∃u us,its=u::us/\zw x u/\zB xs us:=by
 cases h with
 |cons r t=>exact⟨_,_,rfl,r,t⟩
theorem zgb{α:Type}{l:List α}{i:Nat}{d:α}(h:i<l.length):l.getD i d∈l:=by
 rw[Jo,Jb h];exact List.getElem_mem h
theorem zis{α:Type}(d:α)(l:List α):(List.range l.length).map (λi=>l.getD i d)=l:=by
 refine List.ext_getElem (by simp) λi h1 h2=> ?_;simp [Jo,Jb h2]
theorem zgM{X:Cx}:yV X (.builtin "sorted") (λxs H Q=> ∃(p:Addr) (zs:List Tz),xs= [.ref p]/\H p=some (.lst (zs.map λz=>V.ref z.1))/\2<=zs.length/\zs.length<64/\(∀z∈zs,v9 z/\ ∃r,H z.1=some (.tup (.int z.2.1:: .int z.2.2.1:: .int z.2.2.2::r)))/\zs.Pairwise (λx y=>x.2.2.2≠y.2.2.2)/\ ∀ws:List Tz,ws.Perm zs->ws.Pairwise (λx y=>x.2.1<=y.2.1/\rkT x<rkT y)->New H (.lst (ws.map λz=>V.ref z.1)) Q):=by
 intro pins s σ H xs us Q I r h;obtain⟨p,zs,rfl,hp,h2,h64,hz,hn,q⟩:=h;obtain⟨u,rfl,ru⟩:=xc r;obtain rfl:u=Value.ref p:=ru;obtain⟨hln,its,n,rv,pl⟩:=I.hok _ _ hp;have ei:its=zs.map λz=>Value.ref z.1:=by
  have:=kI rv;exact this
 subst ei;have hl:(zs.map λz=>Value.ref z.1).length=zs.length:=Ja ..;have gz: ∀i,i<zs.length->(zs.map λz=>Value.ref z.1).getD i Value.none=Value.ref (zs.getD i (0,0,0,0)).1:=λi hi=>by
  rw[Jo,Jh,Jo,Jb hi];rfl
 have inb: ∀i,i<zs.length->v9 (zs.getD i (0,0,0,0)):=λi hi=>(hz _ (zgb hi)).1;have hK:So.Keys s.heap (zs.map λz=>Value.ref z.1) (λi=>((zs.getD i (0,0,0,0)).2.1*4000000+(zs.getD i (0,0,0,0)).2.2.1)*64+(zs.getD i (0,0,0,0)).2.2.2) (λi=>(zs.getD i (0,0,0,0)).2.1) (λi=>(zs.getD i (0,0,0,0)).2.2.1) (λi=>(zs.getD i (0,0,0,0)).2.2.2):=by
  refine⟨λi hi=> ?_,λi j hi hj hij=> ?_,λi j hi hj=> ?_⟩
  ·rw[hl] at hi;rw[gz i hi];obtain⟨_,rest,e⟩:=hz _ (zgb (d:=(0,0,0,0)) hi);obtain⟨_,ts,tv,o,e1,e2,k,e3⟩:=I.hok _ _ e;obtain⟨x1,ts1,rfl,⟨t1,rfl⟩,tv1⟩:=kJ tv;obtain⟨x2,ts2,rfl,⟨t2,rfl⟩,tv2⟩:=kJ tv1;obtain⟨x3,ts3,rfl,⟨t3,rfl⟩,tv3⟩:=kJ tv2;exact⟨_,o,_,k,t1,t2,t3,ts3,rfl,e1,e2,e3,rfl⟩
  ·rw[hl] at hi hj;show (zs.getD i (0,0,0,0)).2.2.2≠(zs.getD j (0,0,0,0)).2.2.2;rw[Jo,Jo,Jb hi,Jb hj];rcases Nat.lt_or_gt_of_ne hij with z|z
   ·exact List.pairwise_iff_getElem.mp hn i j hi hj z
   ·exact(List.pairwise_iff_getElem.mp hn j i hj hi z).symm
  ·rw[hl] at hi hj;have b1:=inb i hi;have b2:=inb j hj;unfold v9 at b1 b2;generalize zs.getD i (0,0,0,0)=u at b1 ⊢;generalize zs.getD j (0,0,0,0)=v at b2 ⊢;omega
 refine So.sorted_tups ⟨_,pl,rfl,_,rfl⟩ hK (by rw[hl];exact h2) (by rw[hl];exact h64) λpm a1 a2=> ?_;rw[hl] at a1 a2;obtain⟨ws,hw⟩: ∃ws,ws=pm.toList.map λi=>zs.getD i (0,0,0,0):=⟨_,rfl⟩
 have pz:pm.toList.length=zs.length:=by rw[Jx,a1.size]
 have inp: ∀i∈pm.toList,i<zs.length:=λi hi=>by
  have:=a1.toList.mem_iff.mp hi;simpa using this
 have ew:(pm.toList.map λi=>(zs.map λz=>Value.ref z.1).getD i Value.none)=ws.map λz=>Value.ref z.1:=by
  rw[hw,List.map_map];exact List.map_congr_left λi hi=>gz i (inp i hi)
 rw[ew];have wp:ws.Perm zs:=by
  have:=(a1.toList.map λi=>zs.getD i (0,0,0,0))
  rw[<-hw] at this;rw[show (List.range zs.length).toArray.toList=List.range zs.length from rfl,zis] at this;exact this
 have wl:ws.length=zs.length:=wp.length_eq;have wo:ws.Pairwise (λx y=>x.2.1<=y.2.1/\rkT x<rkT y):=by
  rw[hw,List.pairwise_map,List.pairwise_iff_getElem];intro i j hi hj hij;have e:=a2 i j hij 'o';unfold So.fv at e;have g: ∀(k:Nat) (hk:k<pm.toList.length),pm.getD k 0=pm.toList[k]:=λk hk=>by
   have:k<pm.size:=by simpa using hk
   simp [Array.getD,this]
  rw[g i hi,g j hj] at e;dsimp only at e;have b1:=inb _ (inp _ (List.getElem_mem hi));have b2:=inb _ (inp _ (List.getElem_mem hj));unfold v9 at b1 b2;unfold rkT;generalize zs.getD pm.toList[i] (0,0,0,0)=u at e b1 ⊢;generalize zs.getD pm.toList[j] (0,0,0,0)=v at e b2 ⊢;omega
 obtain⟨ep,at_⟩:=sortedAll_at s.heap (zs.map λz=>Value.ref z.1) (List.toArray (ws.map λz=>Value.ref z.1));have hf:H (s.heap.objs.size+1)=none:=I.hok.fresh (Nat.le_succ _);refine⟨.ref (s.heap.objs.size+1),upd H (s.heap.objs.size+1) (.lst (ws.map λz=>V.ref z.1)),I.laid (t':=s.toks) (λb u e=>sortedAll_old e) (Nat.le_succ _) ?_,rfl,(q ws wp wo).at hf⟩;refine⟨by rw[Ja,wl];rw[Ja] at hln;exact hln,ws.map λz=>Value.ref z.1,ep,?_,at_⟩
 have:=zga (ws.map (·.1));rw[List.map_map,List.map_map] at this;exact this
def uR(w:World):List DictEntry->List (Str×V)->Prop
 | [], []=>True
 |e::es,kv::r=>(∃t,e.key= .str kv.1 t)/\e.hash=PyData.keyHash w.params kv.1/\zw kv.2 e.val/\uR w es r
 |_,_=>False
theorem znR(P:Program){w:World}: ∀{es:List DictEntry} {kvs:List (Str×V)},uR w es kvs-> ∃vs:List (Key×Value),vs.map (·.1)=kvs.map (λkv=>Sum.inr kv.1)/\(∀e∈es,∃k,(yy P w).is k e.key=true/\e.hash=(yy P w).hash k)/\Pairs (yy P w) es vs/\ ∀k v,kvs.lookup k=some v-> ∃u,valueAt vs (Sum.inr k)=some u/\zw v u
 | [], [],_=>⟨[],rfl,(λ_ h=>nomatch h), .nil,(λ_ _ h=>nomatch h)⟩
 |e::es,kv::r,h=>by
  obtain⟨⟨t,h1⟩,h2,h3,h4⟩:=h;obtain⟨vs,a1,a2,a3,a4⟩:=znR P h4;have ki:(yy P w).is (Sum.inr kv.1) e.key=true:=by rw[h1];exact wf (k:=Sum.inr kv.1) ⟨t,rfl⟩
  refine⟨(Sum.inr kv.1,e.val)::vs,by rw[JA,JA,a1],λx hx=> ?_, .cons ki rfl a3,λk v hk=> ?_⟩
  ·rcases JD.mp hx with rfl|hx
   ·exact⟨Sum.inr kv.1,ki,h2⟩
   ·exact a2 x hx
  ·obtain⟨kn,kd⟩:=kv;rw[List.lookup_cons] at hk;by_cases z:k=kn
   ·subst z;rw[beq_self_eq_true] at hk;cases hk;exact⟨e.val,by unfold valueAt;rw[List.find?_cons_of_pos (by simp)];rfl,h3⟩
   ·rw[beq_false_of_ne z] at hk;obtain⟨u,b1,b2⟩:=a4 k v hk;refine⟨u,?_,b2⟩;unfold valueAt at b1 ⊢;rw[List.find?_cons_of_neg (by simp only[decide_eq_true_eq];exact λq=>z (Sum.inr.inj q).symm)];exact b1
 | [],_::_,h=>h.elim
 |_::_, [],h=>h.elim
def tDc(kvs:List (Str×V))(ty:TE):TE:=λσ H Q=>ty σ H λy H1=> ∃k v,y= .str k/\kvs.lookup k=some v/\Q v H1
def zqm(w:World)(K:Fg)(mg:Str->Option Value)(x:Str)(kvs:List (Str×V)):Prop:= ∃(a:Addr) (es:Array DictEntry) (ep:Nat),mg x=some (.ref a)/\K.lookup a=some ⟨.type "dict",none, .dict es ep, #[]⟩/\uR w es.toList kvs/\(kvs.map (·.1)).Nodup
theorem zlf{X:Cx}{x:Str}{i:Expr}{ty:TE}{kvs:List (Str×V)}{p pos:Pos}(hg:Gl X x)(hc:zqm X.w X.K X.mg x kvs)(hi:PE X i ty)(hs:ku i)(hd:(x==("__debug__":Str))=false:=by decide):PE X (.Subscript (.Name x p) i pos) (tDc kvs ty):=by
 obtain⟨a,es,ep,hm,hl,he,hn⟩:=hc;intro pins s σ H Q I h;refine zi5 PySem.F.slot_dict_getitem.lookup hs (vG I hg hm (thn (hi pins s σ H _ I h) λiv s2 ⟨y,H2,I2,ry,k,v,ey,hk,q2⟩=> ?_) hd);subst ey;have ha:=I2.kIn a _ hl;obtain⟨vs,a1,a2,a3,a4⟩:=znR X.prog he;obtain⟨u,b1,b2⟩:=a4 k v hk;have nd:(vs.map (·.1)).Nodup:=by
  rw[a1,show (kvs.map λkv=>(Sum.inr kv.1:Key))=(kvs.map (·.1)).map Sum.inr by rw[List.map_map];rfl];exact hn.map _ λ_ _ h q=>h (Sum.inr.inj q)
 have dd:s2.heap.DictOf (yy X.prog X.w) a vs:=⟨_,es,ep,ha,⟨rfl,rfl,rfl⟩,rfl,λe he=>a2 e (Array.mem_toList_iff.mpr he),a3,nd⟩
 exact⟨dd.typeIs,wpAny_getItem_of (wf (k:=Sum.inr k) ry) dd.mapOf b1 ⟨v,H2,I2.tok _,b2,q2⟩⟩
end L2
namespace L2.So
open PySem PySem.W PySem.Calls PyProof.Rows
section
variable {prog:Program} {w:World} {A:Around} {E:Value->Shared->Prop} {s:Shared} {vs:List Value}
theorem zhx{a:Addr}{n:Nat}{P:PySem.Fin->Shared->Prop}(ho:s.heap.get? a=some (seqObj "list" vs.toArray n))(h2:vs.length<2)(h:P (.done (.ret .none)) {s with heap:=sortedHeap s.heap a vs vs.toArray}):wpAny (model prog w) A (Builtin.«list.sort» ⟨[.ref a], []⟩) P E s:=by
 obtain⟨e1,g1⟩: ∃e1,(s.heap.update a (Obj.mapSeq λ_=>(#[]:Array Value))).get? a=some (seqObj "list" #[] e1):=⟨_,get?_update_seq ho λ_=> #[]⟩
 obtain⟨h3,hh3⟩: ∃h3,h3=((s.heap.update a (Obj.mapSeq λ_=>(#[]:Array Value))).push (seqObj "tuple" vs.toArray 0)).push (seqObj "list" #[] 0):=⟨_,rfl⟩
 have g3:h3.get? a=some (seqObj "list" #[] e1):=by rw[hh3];exact Qa _ (Qa _ g1)
 rw[list_sort_plain];refine JW (listItems_at ho rfl (JW (listUpdate_at ho rfl ?_ (by rw[Jn,sizeLine_eq];omega) (Jv _))));refine JW (seqEpoch_at g1 rfl (JW (wpAny_newTuple ?_ (by show vs.length<=_;rw[sizeLine_eq];omega))));refine JW (wpAny_newList (wpAny_holding ?_) (Jv _));show wpAny (model prog w) A _ P E {s with heap:=((s.heap.update a (Obj.mapSeq λ_=> #[])).push (seqObj "tuple" vs.toArray 0)).push (seqObj "list" #[] 0)};rw[<-hh3];dsimp only;have n2:vs.toArray.size<2:=by rw[Jn];omega
 rw[Jg n2,Jg n2];refine JW (JX ?_);rw[StateT.run_pure];refine JW (JX ?_);dsimp only;have eo:(arrOf (SortSt.mk' general' (vs.toArray.zip vs.toArray) #[] 7 none)).map (·.2)=vs.toArray:=by
  show (vs.toArray.zip vs.toArray).map (·.2)=vs.toArray;rw[Array.map_snd_zip (Je _)]
 rw[eo];refine JW (seqEpoch_at g3 rfl (JW (listUpdate_at g3 rfl ?_ (Jv _) (by rw[Jn,sizeLine_eq];omega))));simp only[bne_self_eq_false,Js,if_false];refine JX ?_;unfold sortedHeap at h;rw[<-hh3] at h;exact h
theorem sorted_short{l:Addr}{Q:Value->Shared->Prop}(hl:s.heap.IsList l vs.toArray)(h2:vs.length<2)(h:Q (.ref (s.heap.objs.size+1)) {s with heap:=sortedAll s.heap vs vs.toArray}):wpAny (model prog w) A (call (.builtin "sorted") [.ref l]) Q E s:=by
 obtain⟨h2',hh2⟩: ∃h2',h2'=((s.heap.push (seqObj "list" #[] 0)).update s.heap.objs.size (Obj.mapSeq (· ++vs.toArray))).push (seqObj "list" vs.toArray 0):=⟨_,rfl⟩
 have hsz:((s.heap.push (seqObj "list" #[] 0)).update s.heap.objs.size (Obj.mapSeq (· ++vs.toArray))).objs.size=s.heap.objs.size+1:=by rw[Heap.size_update];exact size_push' ..
 have g2:h2'.get? (s.heap.objs.size+1)=some (seqObj "list" vs.toArray 0):=by rw[hh2,<-hsz];exact Qc _ rfl
 refine Calls.call_function_entry kind_sorted plain_sorted entry_sorted (args_sorted1 _) ?_;unfold Builtin.«sorted»;refine JW (m:=checkCount "sorted" 1 1 _) (JX (JW (collect_list hl (JW (wpAny_newList ?_ (by rw[sizeLine_eq];omega))) (by rw[sizeLine_eq];omega))));show wpAny _ _ _ _ _ {s with heap:=((s.heap.push (seqObj "list" #[] 0)).update s.heap.objs.size (Obj.mapSeq (· ++vs.toArray))).push _};rw[hsz,<-hh2];refine JW (wpAny_holding (wpAny_call_entry slot_list_sort ⟨_,g2,rfl⟩ entry_list_sort (zhx (s:={s with heap:=h2'}) g2 h2 ⟨_,rfl,JX ⟨_,rfl,?_⟩⟩) (args_list_sort _)));unfold sortedAll at h;rw[<-hh2] at h;exact h
end
end L2.So
namespace L2
open PySem PySem.Spec PyProof.Rows
theorem zgN{X:Cx}:yV X (.builtin "sorted") (λxs H Q=> ∃(p:Addr) (zs:List Tz),xs= [.ref p]/\H p=some (.lst (zs.map λz=>V.ref z.1))/\zs.length<64/\(∀z∈zs,v9 z/\ ∃r,H z.1=some (.tup (.int z.2.1:: .int z.2.2.1:: .int z.2.2.2::r)))/\zs.Pairwise (λx y=>x.2.2.2≠y.2.2.2)/\ ∀ws:List Tz,ws.Perm zs->ws.Pairwise (λx y=>x.2.1<=y.2.1/\rkT x<rkT y)->New H (.lst (ws.map λz=>V.ref z.1)) Q):=by
 intro pins s σ H xs us Q I r h;obtain⟨p,zs,rfl,hp,h64,hz,hn,q⟩:=h;by_cases h2:2<=zs.length
 ·exact zgM pins s σ H _ us Q I r ⟨p,zs,rfl,hp,h2,h64,hz,hn,q⟩
 obtain⟨u,rfl,ru⟩:=xc r;obtain rfl:u=Value.ref p:=ru;obtain⟨hln,its,n,rv,pl⟩:=I.hok _ _ hp;have ei:its=zs.map λz=>Value.ref z.1:=kI rv;subst ei;refine So.sorted_short ⟨_,pl,rfl,_,rfl⟩ (by rw[Ja];omega) ?_;obtain⟨ep,at_⟩:=sortedAll_at s.heap (zs.map λz=>Value.ref z.1) (List.toArray (zs.map λz=>Value.ref z.1));have hf:H (s.heap.objs.size+1)=none:=I.hok.fresh (Nat.le_succ _);have so:zs.Pairwise (λx y=>x.2.1<=y.2.1/\rkT x<rkT y):=by
  match zs,h2 with
  | [],_=>exact .nil
  | [z],_=>exact List.pairwise_singleton ..
  |_::_::r,h=>exact absurd (by rw[Jp,Jp];omega) h
 exact⟨.ref (s.heap.objs.size+1),upd H (s.heap.objs.size+1) (.lst (zs.map λz=>V.ref z.1)),I.laid (t':=s.toks) (λb u e=>sortedAll_old e) (Nat.le_succ _) ⟨hln,zs.map λz=>Value.ref z.1,ep,rv,at_⟩,rfl,(q zs (.refl _) so).at hf⟩
section
variable {prog:Program} {w:World} {A:Around} {E:Value->Shared->Prop} {s:Shared}
end
theorem kK: ∀{zs:List Int} {us:List Value},zB (zs.map V.int) us->IntsAre us zs
 | [], [],_=> .nil
 |_::_,_::_, .cons ⟨_,e⟩ t=>by subst e;exact .cons _ _ (kK t)
theorem kL: ∀{us:List Value} {zs:List Int},IntsAre us zs->zB (zs.map V.int) us
 | [], [],_=> .nil
 |_::_,_::_,h=>by
  cases h with
  |cons a b c=>exact .cons ⟨_,rfl⟩ (kL (by assumption))
theorem zgO{X:Cx}:yV X (.builtin "sorted") (λxs H Q=> ∃(p:Addr) (zs:List Int),xs= [.ref p]/\H p=some (.lst (zs.map V.int))/\zs.length<64/\ ∀ws:List Int,ws.Perm zs->ws.Pairwise (· <= ·)->New H (.lst (ws.map V.int)) Q):=by
 intro pins s σ H xs us Q I r h;obtain⟨p,zs,rfl,hp,h64,q⟩:=h;obtain⟨u,rfl,ru⟩:=xc r;obtain rfl:u=Value.ref p:=ru;obtain⟨hln,its,n,rv,pl⟩:=I.hok _ _ hp;have il:its.length=zs.length:=by rw[<-rv.length,Ja]
 refine sorted_ints ⟨_,pl,rfl,_,rfl⟩ (kK rv) (by rw[il];exact h64) λout ns' a1 a2 a3=> ?_;obtain⟨ep,at_⟩:=sortedAll_at s.heap its out;have hf:H (s.heap.objs.size+1)=none:=I.hok.fresh (Nat.le_succ _);refine⟨.ref (s.heap.objs.size+1),upd H (s.heap.objs.size+1) (.lst (ns'.map V.int)),I.laid (t':=s.toks) (λb u e=>sortedAll_old e) (Nat.le_succ _) ?_,rfl,(q ns' a2 a3).at hf⟩;exact⟨by rw[Ja,a2.length_eq];rw[Ja] at hln;exact hln,out.toList,ep,kL a1,by rw[Array.toArray_toList];exact at_⟩
end L2
namespace L2.Tm
open PySem PyProof.Rows
variable{lo hi i:Nat}{xs ys:AK}{st:SortSt}
abbrev AK:=Array Keyed
structure TB (a₀:AK) (st:SortSt):Prop where
 pm:(arrOf st).Perm a₀
 kd:kindOf st=oneType'
 fl:failedOf st=none
def Sg(xs:AK)(lo hi:Nat):Prop:= ∀i j,lo<=i->i<=j->j<hi->K xs i<=K xs j
def Dg(xs:AK)(lo hi:Nat):Prop:= ∀i j,lo<=i->i<=j->j<hi->K xs j<=K xs i
def Off(lo hi:Nat)(xs ys:AK):Prop:= ∀k,k<lo\/hi<=k->K xs k=K ys k
theorem Off.refl:Off lo hi xs xs:=λ_ _=>rfl
theorem Off.wide{lo' hi':Nat}(h:Off lo hi xs ys)(a:lo'<=lo)(b:hi<=hi'):Off lo' hi' xs ys:=λk q=>h k 'o'
theorem Sg.one(h:hi<=lo+1):Sg xs lo hi:=λi j a b c=>by
 obtain rfl:i=j:=by omega
 exact Jz _
theorem Sg.next{x:Nat}(h:Sg xs lo x)(q:K xs (x - 1)<=K xs x):Sg xs lo (x+1):=λi j a b c=>by
 by_cases e:j<x
 ·exact h i j a b e
 obtain rfl:j=x:=by omega
 by_cases e2:i=j
 ·rw[e2];exact Jz _
 exact Int.le_trans (h i (j - 1) a 'o' 'o') q
theorem Dg.next{x:Nat}(h:Dg xs lo x)(q:K xs x<=K xs (x - 1)):Dg xs lo (x+1):=λi j a b c=>by
 by_cases e:j<x
 ·exact h i j a b e
 obtain rfl:j=x:=by omega
 by_cases e2:i=j
 ·rw[e2];exact Jz _
 exact Int.le_trans q (h i (j - 1) a 'o' 'o')
theorem Sg.off{a b:Nat}(h:Sg ys a b)(o:Off lo hi xs ys)(d:b<=lo\/hi<=a):Sg xs a b:=λi j p q r=>by
 rw[o i 'o',o j 'o'];exact h i j p q r
theorem TB.size{a₀:AK}{st:SortSt}(h:TB a₀ st):(arrOf st).size=a₀.size:=h.pm.size_eq
theorem TB.set{a₀:AK}(h:TB a₀ st)(hp:xs.Perm (arrOf st)):TB a₀ (setArr st xs):=⟨hp.trans h.pm,h.kd,h.fl⟩
theorem int_at(h0:IntKeys xs)(hi:i<xs.size): ∃p t,xs[i]? =some p/\p.1= .int (K xs i) t:=by
 have e:xs[i]? =some xs[i]:=getElem?_pos _ i hi;obtain⟨n,t,hn⟩:=h0 xs[i] (by simp);refine⟨_,t,e,?_⟩;unfold K;rw[e];show xs[i].1= .int (numOf xs[i].1) t;rw[hn];rfl
theorem kM(h:IntKeys ys)(p:xs.Perm ys):IntKeys xs:=λq hq=>h q ((Array.perm_iff_toList_perm.mp p).mem_iff.mp hq)
section
variable {prog:Program} {w:World} {A:Around} {E:Value->Shared->Prop} {s:Shared} {a₀:AK}
theorem ltP{x y:Keyed}{a b:Int}{t u:Tok}{Q:Option Bool->SortSt->Prop}(hk:kindOf st=oneType')(hx:x.1= .int a t)(hy:y.1= .int b u)(h:Q (some (decide (a<b))) st):wpS (model prog w) A E s (lt' x y) Q st:=by
 rw[lt'_eq];refine JY (wpS_get ?_);rw[hk,keyLt'_oneType,hx,hy];exact JY (wpS_lift (wpAny_attempt (oneLt_int ⟨rfl,JZ h⟩)))
theorem yM{p:Keyed}{Q:Keyed->SortSt->Prop}(e:xs[i]? =some p)(h:Q p st):wpS (model prog w) A E s (elem' xs i) Q st:=by
 rw[elem'_eq,e];exact JZ h
theorem ltT{j:Nat}{Q:Option Bool->SortSt->Prop}(hB:TB a₀ st)(h0:IntKeys a₀)(hi:i<a₀.size)(hj:j<a₀.size)(h:Q (some (decide (K (arrOf st) i<K (arrOf st) j))) st):wpS (model prog w) A E s (ltAt' i j) Q st:=by
 obtain⟨p,t,e1,e2⟩:=int_at (kM h0 hB.pm) (by rw[hB.size];exact hi);obtain⟨q,u,e3,e4⟩:=int_at (kM h0 hB.pm) (by rw[hB.size];exact hj);rw[ltAt'_eq];exact JY (wpS_get (JY (yM e1 (JY (yM e3 (ltP hB.kd e2 e4 h))))))
theorem uS{j:Nat}{Q:Unit->SortSt->Prop}(h:Q () (setArr st (mirror (arrOf st) i j ((j - i) / 2)))):wpS (model prog w) A E s (reverseSlice' i j) Q st:=by
 rw[reverseSlice'_eq];exact wpS_modify h
theorem zoJ{n ok:Nat}{Q:Bool->SortSt->Prop}(h0:IntKeys a₀)(hn:lo+n<=a₀.size)(hok:ok<=n)(hB:TB a₀ st)(hs:Sg (arrOf st) lo (lo+ok))
  (h: ∀st',TB a₀ st'->pendingOf st'=pendingOf st->Sg (arrOf st') lo (lo+n)->Off lo (lo+n) (arrOf st') (arrOf st)->Q true st'):wpS (model prog w) A E s (binarySort' lo n ok) Q st:=by
 rw[binarySort'_eq];refine JY (wpS_mono (wpS_forRange (I:=λk c st'=>c=(none,())/\TB a₀ st'/\pendingOf st'=pendingOf st/\Sg (arrOf st') lo (lo+min k n)/\Off lo (lo+n) (arrOf st') (arrOf st)) (Q:=λc st'=>c=(none,())/\TB a₀ st'/\pendingOf st'=pendingOf st/\Sg (arrOf st') lo (lo+n)/\Off lo (lo+n) (arrOf st') (arrOf st)) ?step ?fin ?init) ?post)
 case post=>exact λc st' ⟨e,hB',hp,hs',ho⟩=>by subst e;exact JZ (h st' hB' hp hs' ho)
 case init=>
  refine⟨rfl,hB,rfl,?_,Off.refl⟩;by_cases z:ok=0
  ·exact Sg.one 'o'
  ·rw[show min (max ok 1) n=ok by omega];exact hs
 case fin=>exact λc st' ⟨e,hB',hp,hs',ho⟩=>⟨e,hB',hp,by rwa[show min (max (max ok 1) n) n=n by omega] at hs',ho⟩
 case step=>
  intro k c st' hak hkn ⟨e,hB',hp,hs',ho⟩;subst e;rw[show min k n=k by omega] at hs';refine JY (wpS_mono (wpS_forRange (I:=λx c st''=>st''=st'/\ ∃l r,c=(none,l,r)/\l<=r/\r<=k/\r - l<=k - x/\(∀i,i<l->K (arrOf st') (lo+i)<=K (arrOf st') (lo+k))/\(∀i,r<=i->i<k->K (arrOf st') (lo+k)<=K (arrOf st') (lo+i)))
   (Q:=λc st''=>st''=st'/\ ∃l r,c=(none,l,r)/\l<=k/\(∀i,i<l->K (arrOf st') (lo+i)<=K (arrOf st') (lo+k))/\(∀i,l<=i->i<k->K (arrOf st') (lo+k)<=K (arrOf st') (lo+i))) ?istep ?ifin ?iinit) ?ipost)
  case iinit=>exact⟨rfl,0,k,rfl,'o','o','o',λi hi=>by omega,λi h1 h2=>by omega⟩
  case ifin=>
   intro c st'' ⟨e1,l,r,e2,hlr,hrk,hm,hlo,hhi⟩;obtain rfl:l=r:=by omega
   exact⟨e1,l,l,e2,hrk,hlo,hhi⟩
  case istep=>
   intro x c st'' _ hxk ⟨e1,l,r,e2,hlr,hrk,hm,hlo,hhi⟩;subst e1 e2;dsimp only;by_cases hge:l≥r
   ·rw[Jg hge];obtain rfl:l=r:=by omega
    exact JZ ⟨rfl,l,l,rfl,hrk,hlo,hhi⟩
   ·rw[Jf hge];refine JY (ltT hB' h0 'o' 'o' ?_);by_cases hless:K (arrOf st'') (lo+k)<K (arrOf st'') (lo+(l+r) / 2)
    ·simp only[hless,decide_true,if_true];exact JZ ⟨rfl,l,(l+r) / 2,rfl,'o','o','o',hlo,λi h1 h2=>Int.le_trans (Int.le_of_lt hless) (hs' _ _ 'o' 'o' 'o')⟩
    ·simp only[hless,decide_false,Js,if_false];exact JZ ⟨rfl,(l+r) / 2+1,r,rfl,'o','o','o',λi h1=>Int.le_trans (hs' (lo+i) (lo+(l+r) / 2) 'o' 'o' 'o') (Int.not_lt.mp hless),hhi⟩
  case ipost=>
   intro c st'' ⟨e1,l,r,e2,hlk,hlo,hhi⟩;subst e1 e2;show wpS _ _ _ _ (do moveDown' (lo+k) (lo+l);pure (ForInStep.yield (none,()))) _ _;rw[moveDown'_eq];have hks:lo+k<(arrOf st'').size:=by rw[hB'.size];omega
   have kb: ∀q,K (bubble (arrOf st'') (lo+k) (lo+k - (lo+l))) q=if q=lo+l then K (arrOf st'') (lo+k) else if lo+l<q/\q<=lo+k then K (arrOf st'') (q - 1) else K (arrOf st'') q:=λq=>by
    rw[K_bubble hks 'o',show lo+k - (lo+k - (lo+l))=lo+l by omega]
   refine JY (wpS_modify (JZ ⟨rfl,hB'.set (bubble_perm _ _ _),hp,?_,λq hq=> ?_⟩))
   ·rw[show min (k+1) n=k+1 by omega];intro i j hi hij hj;show K (bubble (arrOf st'') _ _) i<=K (bubble (arrOf st'') _ _) j;rw[kb,kb];have lo': ∀z,lo<=z->z<lo+l->K (arrOf st'') z<=K (arrOf st'') (lo+k):=λz a b=>by have:=hlo (z - lo) 'o';rwa[show lo+(z - lo)=z by omega] at this
    have hi': ∀z,lo+l<=z->z<lo+k->K (arrOf st'') (lo+k)<=K (arrOf st'') z:=λz a b=>by have:=hhi (z - lo) 'o' 'o';rwa[show lo+(z - lo)=z by omega] at this
    repeat' split
    all_goals first
     |(exfalso;omega)
     |exact Jz _
     |exact lo' _ 'o' 'o'
     |exact hi' _ 'o' 'o'
     |exact hs' _ _ 'o' 'o' 'o'
   ·show K (bubble (arrOf st'') _ _) q=_;rw[kb,Jf 'o',Jf 'o'];exact ho q hq
end
end L2.Tm
namespace L2.Tm
open PySem PyProof.Rows
variable{st:SortSt}{lo nrem:Nat}{Q:Option Nat->SortSt->Prop}
def rise(lo n nrem:Nat):StateT SortSt Sem (Option Nat):=do
 let mut m:=n
 for _ in [n:nrem] do
  let some smaller<-ltAt' (lo+m) (lo+m - 1)|return none
  if smaller then break
  m:=m+1
 return some m
def zqn(lo n nrem:Nat):StateT SortSt Sem (Option Nat):=do
 rule "list.sort.descending-run"
 let mut m:=n+1
 let mut neq:=0
 for _ in [m:nrem] do
  let some smaller<-ltAt' (lo+m) (lo+m - 1)|return none
  if smaller then
   if neq>0 then reverseSlice' (lo+m - (neq+1)) (lo+m)
   neq:=0
  else
   let some larger<-ltAt' (lo+m - 1) (lo+m)|return none
   if larger then break
   neq:=neq+1
  m:=m+1
 if neq>0 then reverseSlice' (lo+m - (neq+1)) (lo+m)
 reverseSlice' lo (lo+m)
 rise lo m nrem
section
variable {prog:Program} {w:World} {A:Around} {E:Value->Shared->Prop} {s:Shared} {a₀:AK}
theorem zm4{n:Nat}{Q:Option Nat->SortSt->Prop}(h0:IntKeys a₀)(hn:lo+nrem<=a₀.size)(h1:1<=n)(hnn:n<=nrem)(hB:TB a₀ st)(hs:Sg (arrOf st) lo (lo+n))
  (h: ∀m,n<=m->m<=nrem->Sg (arrOf st) lo (lo+m)->Q (some m) st):wpS (model prog w) A E s (rise lo n nrem) Q st:=by
 unfold rise;refine JY (wpS_mono (wpS_forRange (I:=λx c st'=>st'=st/\c=(none,x)/\Sg (arrOf st) lo (lo+x)) (Q:=λc st'=>st'=st/\ ∃m,c=(none,m)/\n<=m/\m<=nrem/\Sg (arrOf st) lo (lo+m)) ?step ?fin ⟨rfl,rfl,hs⟩) ?post)
 case post=>
  intro c st' ⟨e1,m,e2,a,b,g⟩;subst e1 e2;exact JZ (h m a b g)
 case fin=>
  intro c st' ⟨e1,e2,g⟩;rw[show max n nrem=nrem by omega] at e2 g;exact⟨e1,nrem,e2,hnn,Je _,g⟩
 case step=>
  intro x c st' a b ⟨e1,e2,g⟩;subst e1 e2;dsimp only;refine JY (ltT hB h0 'o' 'o' ?_);by_cases q:K (arrOf st') (lo+x)<K (arrOf st') (lo+x - 1)
  ·simp only[q,decide_true,if_true];exact JZ ⟨rfl,x,rfl,a,'o',g⟩
  ·simp only[q,decide_false,Js,if_false];exact JZ ⟨rfl,rfl,g.next (Int.not_lt.mp q)⟩
theorem kN{xs:AK}{hi:Nat}(hj:hi<=xs.size)(he: ∀k,lo<=k->k<hi->K xs k=K xs (hi - 1))(k:Nat):K (mirror xs lo hi ((hi - lo) / 2)) k=K xs k:=K_mirror_equal hj he k
theorem zi8{n:Nat}{Q:Option Nat->SortSt->Prop}(h0:IntKeys a₀)(hn:lo+nrem<=a₀.size)(h1:1<=n)(hnn:n+1<=nrem)(hB:TB a₀ st)(hs:Dg (arrOf st) lo (lo+(n+1)))
  (h: ∀m st',1<=m->m<=nrem->TB a₀ st'->pendingOf st'=pendingOf st->Sg (arrOf st') lo (lo+m)->Off lo (lo+nrem) (arrOf st') (arrOf st)->Q (some m) st'):wpS (model prog w) A E s (zqn lo n nrem) Q st:=by
 unfold zqn;refine JY (wpS_lift (wpAny_rule ⟨rfl,?_⟩));refine JY (wpS_mono (wpS_forRange
  (I:=λx c st'=> ∃neq,c=(none,x,neq)/\TB a₀ st'/\pendingOf st'=pendingOf st/\Off lo (lo+nrem) (arrOf st') (arrOf st)/\Dg (arrOf st') lo (lo+x)/\neq+1<=x/\ ∀i,lo+x - (neq+1)<=i->i<lo+x->K (arrOf st') i=K (arrOf st') (lo+x - 1))
  (Q:=λc st'=> ∃m neq,c=(none,m,neq)/\n+1<=m/\m<=nrem/\TB a₀ st'/\pendingOf st'=pendingOf st/\Off lo (lo+nrem) (arrOf st') (arrOf st)/\Dg (arrOf st') lo (lo+m)/\neq+1<=m/\ ∀i,lo+m - (neq+1)<=i->i<lo+m->K (arrOf st') i=K (arrOf st') (lo+m - 1)) ?step ?fin ?init) ?post)
 case init=>exact⟨0,rfl,hB,rfl,Off.refl,hs,'o',λi a b=>by congr 1;omega⟩
 case fin=>
  intro c st' ⟨neq,e,r⟩;rw[show max (n+1) nrem=nrem by omega] at e r;exact⟨nrem,neq,e,hnn,Je _,r⟩
 case step=>
  intro x c st' a b ⟨neq,e,hB',hp,ho,hd,hq,he⟩;subst e;dsimp only;have hsz:lo+x<=(arrOf st').size:=by rw[hB'.size];omega
  refine JY (ltT hB' h0 'o' 'o' ?_);by_cases q:K (arrOf st') (lo+x)<K (arrOf st') (lo+x - 1)
  ·simp only[q,decide_true,if_true];have d1:=hd.next (Int.le_of_lt q);by_cases z:neq>0
   ·rw[Jg z];have km:=kN hsz he;refine JY (uS (JZ ⟨0,rfl,hB'.set (mirror_perm _ _ _ _),hp,λk g=> ?_,λi j u v y=> ?_,'o',λi u v=>by congr 1;omega⟩))
    ·exact(km k).trans (ho k g)
    ·show K (mirror _ _ _ _) j<=K (mirror _ _ _ _) i;rw[km,km];exact d1 i j u v y
   ·rw[Jf z];exact JZ ⟨0,rfl,hB',hp,ho,d1,'o',λi u v=>by congr 1;omega⟩
  ·simp only[q,decide_false,Js,if_false];refine JY (ltT hB' h0 'o' 'o' ?_);by_cases q2:K (arrOf st') (lo+x - 1)<K (arrOf st') (lo+x)
   ·simp only[q2,decide_true,if_true];exact JZ ⟨x,neq,rfl,a,'o',hB',hp,ho,hd,hq,he⟩
   ·simp only[q2,decide_false,Js,if_false];have ex:K (arrOf st') (lo+x)=K (arrOf st') (lo+x - 1):=by omega
    refine JZ ⟨neq+1,rfl,hB',hp,ho,hd.next (Int.le_of_eq ex),'o',λi u v=> ?_⟩;rw[show lo+(x+1) - 1=lo+x by omega,ex];by_cases iq:i=lo+x
    ·rw[iq,ex]
    ·exact he i 'o' 'o'
 case post=>
  intro c st' ⟨m,neq,e,a,b,hB',hp,ho,hd,hq,he⟩;subst e;dsimp only;have hsz:lo+m<=(arrOf st').size:=by rw[hB'.size];omega
  have last: ∀st2:SortSt,TB a₀ st2->pendingOf st2=pendingOf st->Off lo (lo+nrem) (arrOf st2) (arrOf st)->Dg (arrOf st2) lo (lo+m)->wpS (model prog w) A E s (do reverseSlice' lo (lo+m);rise lo m nrem) Q st2:=by
   intro st2 hB2 hp2 ho2 hd2;have sz2:lo+m<=(arrOf st2).size:=by rw[hB2.size];omega
   have hB3:=hB2.set (mirror_perm (arrOf st2) lo (lo+m) ((lo+m - lo) / 2));refine JY (uS (zm4 h0 hn 'o' b hB3 (λi j u v y=> ?_) λm' u v g=>h m' _ 'o' v hB3 hp2 g λk z=> ?_))
   ·show K (mirror _ _ _ _) i<=K (mirror _ _ _ _) j;rw[K_mirror sz2,K_mirror sz2,Jg 'o',Jg 'o'];exact hd2 _ _ 'o' 'o' 'o'
   ·show K (mirror _ _ _ _) k=_;rw[K_mirror sz2,Jf 'o'];exact ho2 k z
  by_cases z:neq>0
  ·rw[Jg z];have km:=kN hsz he;refine JY (uS (last _ (hB'.set (mirror_perm _ _ _ _)) hp (λk g=>(km k).trans (ho k g)) λi j u v y=> ?_));show K (mirror _ _ _ _) j<=K (mirror _ _ _ _) i;rw[km,km];exact hd i j u v y
  ·rw[Jf z];exact last _ hB' hp ho hd
theorem count{Q:Option Nat->SortSt->Prop}(h0:IntKeys a₀)(hn:lo+nrem<=a₀.size)(h1:1<=nrem)(hB:TB a₀ st)
  (h: ∀m st',1<=m->m<=nrem->TB a₀ st'->pendingOf st'=pendingOf st->Sg (arrOf st') lo (lo+m)->Off lo (lo+nrem) (arrOf st') (arrOf st)->Q (some m) st'):wpS (model prog w) A E s (countRun' lo nrem) Q st:=by
 rw[countRun'_eq];refine JY (wpS_mono (wpS_forRange (I:=λx c st'=>st'=st/\c=(none,x)/\Sg (arrOf st) lo (lo+x)) (Q:=λc st'=>st'=st/\ ∃m,c=(none,m)/\1<=m/\m<=nrem/\Sg (arrOf st) lo (lo+m)/\(m=nrem\/K (arrOf st) (lo+m)<K (arrOf st) (lo+m - 1))) ?step ?fin ⟨rfl,rfl,Sg.one 'o'⟩) ?post)
 case fin=>
  intro c st' ⟨e1,e2,g⟩;rw[show max 1 nrem=nrem by omega] at e2 g;exact⟨e1,nrem,e2,h1,Je _,g, .inl rfl⟩
 case step=>
  intro x c st' a b ⟨e1,e2,g⟩;subst e1 e2;dsimp only;refine JY (ltT hB h0 'o' 'o' ?_);by_cases q:K (arrOf st') (lo+x)<K (arrOf st') (lo+x - 1)
  ·simp only[q,decide_true,if_true];exact JZ ⟨rfl,x,rfl,a,'o',g, .inr q⟩
  ·simp only[q,decide_false,Js,if_false];exact JZ ⟨rfl,rfl,g.next (Int.not_lt.mp q)⟩
 case post=>
  intro c st' ⟨e1,n,e2,a,b,g,o⟩;subst e1 e2;dsimp only;by_cases z:n=nrem
  ·rw[Jg (by simpa using z)];exact JZ (h n _ a b hB rfl g Off.refl)
  rw[Jf (by simpa using z)];have hlt:=o.resolve_left z;by_cases z1:n>1
  ·rw[Jg z1];refine JY (ltT hB h0 'o' 'o' ?_);by_cases q:K (arrOf st') lo<K (arrOf st') (lo+n - 1)
   ·simp only[q,decide_true,if_true];exact JZ (h n _ a b hB rfl g Off.refl)
   ·simp only[q,decide_false,Js,if_false];have hsz:lo+n<=(arrOf st').size:=by rw[hB.size];omega
    have al: ∀k,lo<=k->k<lo+n->K (arrOf st') k=K (arrOf st') (lo+n - 1):=λk u v=>by
     have a1:=g lo k (Je _) u v;have a2:=g k (lo+n - 1) u 'o' 'o';omega
    have km:=kN hsz al;refine JY (uS ?_);refine zi8 (n:=n) h0 hn a 'o' (hB.set (mirror_perm _ _ _ _)) ?_ λm st2 u v hB2 hp2 g2 o2=>h m st2 u v hB2 hp2 g2 λk y=>(o2 k y).trans (km k);intro i j u v y;show K (mirror _ _ _ _) j<=K (mirror _ _ _ _) i;rw[km,km];by_cases jn:j<lo+n
    ·rw[al i 'o' 'o',al j 'o' jn];exact Jz _
    ·obtain rfl:j=lo+n:=by omega
     by_cases iq:i=lo+n
     ·rw[iq];exact Jz _
     ·rw[al i u 'o'];exact Int.le_of_lt hlt
  ·rw[Jf z1];obtain rfl:n=1:=by omega
   refine zi8 (n:=1) h0 hn (Je _) 'o' hB ?_ h;intro i j u v y;by_cases iq:i=j
   ·rw[iq];exact Jz _
   ·obtain rfl:i=lo:=by omega
    obtain rfl:j=i+1:=by omega
    exact Int.le_of_lt hlt
end
end L2.Tm
namespace L2.Tm
open PySem PyProof.Rows
variable{left:Bool}{st:SortSt}{key:Keyed}{arr:AK}{base:Nat}{kv:Int}
def wk:Bool->Keyed->AK->Nat->Nat->Nat->StateT SortSt Sem (Option Nat):=sortPriv% PySem.Builtin.gallop
def wQ(left:Bool)(key:Keyed)(arr:AK)(base i:Nat):StateT SortSt Sem (Option Bool):=do
 let x<-elem' arr (base+i)
 if left then lt' x key else return (<-lt' key x).map (!·)
theorem zit(left:Bool)(key:Keyed)(arr:AK)(base n hint:Nat):wk left key arr base n hint=(do
 let mut lastofs:=0
 let mut ofs:=1
 let mut lo:=0
 let mut hi:=0
 let some right<-wQ left key arr base hint|return none
 if right then
  let maxofs:=n - hint
  for _ in [0:n] do
   if ofs≥maxofs then break
   let some more<-wQ left key arr base (hint+ofs)|return none
   if !more then break
   lastofs:=ofs
   ofs:=2*ofs+1
  lo:=hint+lastofs+1
  hi:=hint+min ofs maxofs
 else
  let maxofs:=hint+1
  for _ in [0:n] do
   if ofs≥maxofs then break
   let some found<-wQ left key arr base (hint - ofs)|return none
   if found then break
   lastofs:=ofs
   ofs:=2*ofs+1
  lo:=hint+1 - min ofs maxofs
  hi:=hint - lastofs
 for _ in [0:n] do
  if lo≥hi then break
  let m:=lo+(hi - lo) / 2
  let some more<-wQ left key arr base m|return none
  if more then lo:=m+1 else hi:=m
 return some hi):=rfl
def znS(left:Bool)(key:Keyed)(arr:AK)(base n lo0 hi0:Nat):StateT SortSt Sem (Option Nat):=do
 let mut lo:=lo0
 let mut hi:=hi0
 for _ in [0:n] do
  if lo≥hi then break
  let m:=lo+(hi - lo) / 2
  let some more<-wQ left key arr base m|return none
  if more then lo:=m+1 else hi:=m
 return some hi
def Bf(left:Bool)(x k:Int):Prop:=if left=true then x<k else x<=k
theorem Bf.mono{x y k:Int}(h:Bf left x k)(q:y<=x):Bf left y k:=by
 unfold Bf at*;split at h
 ·rw[Jg ‹_›];omega
 ·rw[Jf ‹_›];omega
theorem Bf.not{x y k:Int}(h: ¬Bf left x k)(q:x<=y): ¬Bf left y k:=λz=>h (z.mono q)
section
variable {prog:Program} {w:World} {A:Around} {E:Value->Shared->Prop} {s:Shared}
theorem uT{left:Bool}{i:Nat}{t:Tok}{Q:Option Bool->SortSt->Prop}(hk:kindOf st=oneType')(hI:IntKeys arr)(hkey:key.1= .int kv t)(hi:base+i<arr.size)
  (h1:Bf left (K arr (base+i)) kv->Q (some true) st) (h2: ¬Bf left (K arr (base+i)) kv->Q (some false) st):wpS (model prog w) A E s (wQ left key arr base i) Q st:=by
 obtain⟨p,u,e1,e2⟩:=int_at hI hi;unfold wQ;refine JY (yM e1 ?_);unfold Bf at h1 h2;cases left with
 |true=>
  simp only[if_true] at h1 h2 ⊢;refine ltP hk e2 hkey ?_;by_cases z:K arr (base+i)<kv
  ·rw[JO z];exact h1 z
  ·rw[JP z];exact h2 z
 |false=>
  simp only[Js,if_false] at h1 h2 ⊢;refine JY (ltP hk hkey e2 (JZ ?_));by_cases z:kv<K arr (base+i)
  ·rw[JO z];exact h2 'o'
  ·rw[JP z];exact h1 'o'
theorem zhy{left:Bool}{n lo hi:Nat}{t:Tok}{Q:Option Nat->SortSt->Prop}(hk:kindOf st=oneType')(hI:IntKeys arr)(hkey:key.1= .int kv t)(hb:base+n<=arr.size)(hS:Sg arr base (base+n))(hl:lo<=hi)(hh:hi<=n)
  (a1: ∀i,i<lo->Bf left (K arr (base+i)) kv) (a2: ∀i,hi<=i->i<n-> ¬Bf left (K arr (base+i)) kv)
  (h: ∀k,k<=n->(∀i,i<k->Bf left (K arr (base+i)) kv)->(∀i,k<=i->i<n-> ¬Bf left (K arr (base+i)) kv)->Q (some k) st):wpS (model prog w) A E s (znS left key arr base n lo hi) Q st:=by
 unfold znS;refine JY (wpS_mono (wpS_forRange (I:=λx c st'=>st'=st/\ ∃l r,c=(none,l,r)/\l<=r/\r<=n/\r - l<=n - x/\(∀i,i<l->Bf left (K arr (base+i)) kv)/\(∀i,r<=i->i<n-> ¬Bf left (K arr (base+i)) kv))
  (Q:=λc st'=>st'=st/\ ∃l r,c=(none,l,r)/\r<=l/\r<=n/\(∀i,i<l->Bf left (K arr (base+i)) kv)/\(∀i,r<=i->i<n-> ¬Bf left (K arr (base+i)) kv)) ?step ?fin ⟨rfl,lo,hi,rfl,hl,hh,'o',a1,a2⟩) ?post)
 case fin=>exact λc st' ⟨e1,l,r,e2,b1,b2,b3,b4,b5⟩=>⟨e1,l,r,e2,'o',b2,b4,b5⟩
 case post=>
  intro c st' ⟨e1,l,r,e2,b1,b2,b4,b5⟩;subst e1 e2;exact JZ (h r b2 (λi hi=>b4 i 'o') b5)
 case step=>
  intro x c st' _ _ ⟨e1,l,r,e2,b1,b2,b3,b4,b5⟩;subst e1 e2;dsimp only;by_cases z:l≥r
  ·rw[Jg z];exact JZ ⟨rfl,l,r,rfl,z,b2,b4,b5⟩
  rw[Jf z];refine JY (uT hk hI hkey 'o' (λq=> ?_) λq=> ?_)
  ·simp only[if_true];exact JZ ⟨rfl,l+(r - l) / 2+1,r,rfl,'o',b2,'o',λi hi=>q.mono (hS _ _ 'o' 'o' 'o'),b5⟩
  ·simp only[Js,if_false];exact JZ ⟨rfl,l,l+(r - l) / 2,rfl,'o','o','o',b4,λi u v=>Bf.not q (hS _ _ 'o' 'o' 'o')⟩
theorem gallop{left:Bool}{n hint:Nat}{t:Tok}{Q:Option Nat->SortSt->Prop}(hk:kindOf st=oneType')(hI:IntKeys arr)(hkey:key.1= .int kv t)(hb:base+n<=arr.size)(hh:hint<n)(hS:Sg arr base (base+n))
  (h: ∀k,k<=n->(∀i,i<k->Bf left (K arr (base+i)) kv)->(∀i,k<=i->i<n-> ¬Bf left (K arr (base+i)) kv)->Q (some k) st):wpS (model prog w) A E s (wk left key arr base n hint) Q st:=by
 rw[zit];have mono: ∀{i j:Nat},i<=j->j<n->K arr (base+i)<=K arr (base+j):=λa b=>hS _ _ 'o' 'o' 'o';refine JY (uT hk hI hkey 'o' (λq=> ?_) λq=> ?_)
 ·simp only[if_true];refine JY (wpS_mono (wpS_forRange (I:=λx c st'=>st'=st/\ ∃l o,c=(none,l,o)/\l<o/\hint+l<n/\Bf left (K arr (base+(hint+l))) kv/\x+1<=o)
   (Q:=λc st'=>st'=st/\ ∃l o,c=(none,l,o)/\l<o/\hint+l<n/\Bf left (K arr (base+(hint+l))) kv/\(n - hint<=o\/ ¬Bf left (K arr (base+(hint+o))) kv)) ?step ?fin ⟨rfl,0,1,rfl,'o','o',q,'o'⟩) ?post)
  case fin=>exact λc st' ⟨e1,l,o,e2,b1,b2,b3,b4⟩=>⟨e1,l,o,e2,b1,b2,b3, .inl 'o'⟩
  case step=>
   intro x c st' _ _ ⟨e1,l,o,e2,b1,b2,b3,b4⟩;subst e1 e2;dsimp only;by_cases z:o≥n - hint
   ·rw[Jg z];exact JZ ⟨rfl,l,o,rfl,b1,b2,b3, .inl z⟩
   rw[Jf z];refine JY (uT hk hI hkey 'o' (λq2=> ?_) λq2=> ?_)
   ·simp only[Bool.not_true,Js,if_false];exact JZ ⟨rfl,o,2*o+1,rfl,'o','o',q2,'o'⟩
   ·simp only[Bool.not_false,if_true];exact JZ ⟨rfl,l,o,rfl,b1,b2,b3, .inr q2⟩
  case post=>
   intro c st' ⟨e1,l,o,e2,b1,b2,b3,b4⟩;subst e1 e2;refine zhy (lo:=hint+l+1) (hi:=hint+min o (n - hint)) hk hI hkey hb hS 'o' 'o' (λi hi=>b3.mono (mono 'o' 'o')) (λi u v=> ?_) h;rcases b4 with b|b
   ·omega
   ·exact Bf.not b (mono 'o' v)
 ·simp only[Js,if_false];refine JY (wpS_mono (wpS_forRange (I:=λx c st'=>st'=st/\ ∃l o,c=(none,l,o)/\l<o/\l<=hint/\ ¬Bf left (K arr (base+(hint - l))) kv/\x+1<=o)
   (Q:=λc st'=>st'=st/\ ∃l o,c=(none,l,o)/\l<o/\l<=hint/\ ¬Bf left (K arr (base+(hint - l))) kv/\(hint+1<=o\/Bf left (K arr (base+(hint - o))) kv)) ?step2 ?fin2 ⟨rfl,0,1,rfl,'o','o',q,'o'⟩) ?post2)
  case fin2=>exact λc st' ⟨e1,l,o,e2,b1,b2,b3,b4⟩=>⟨e1,l,o,e2,b1,b2,b3, .inl 'o'⟩
  case step2=>
   intro x c st' _ _ ⟨e1,l,o,e2,b1,b2,b3,b4⟩;subst e1 e2;dsimp only;by_cases z:o≥hint+1
   ·rw[Jg z];exact JZ ⟨rfl,l,o,rfl,b1,b2,b3, .inl z⟩
   rw[Jf z];refine JY (uT hk hI hkey 'o' (λq2=> ?_) λq2=> ?_)
   ·simp only[if_true];exact JZ ⟨rfl,l,o,rfl,b1,b2,b3, .inr q2⟩
   ·simp only[Js,if_false];exact JZ ⟨rfl,o,2*o+1,rfl,'o','o',q2,'o'⟩
  case post2=>
   intro c st' ⟨e1,l,o,e2,b1,b2,b3,b4⟩;subst e1 e2;refine zhy (lo:=hint+1 - min o (hint+1)) (hi:=hint - l) hk hI hkey hb hS 'o' 'o' (λi hi=> ?_) (λi u v=>Bf.not b3 (mono u v)) h;rcases b4 with b|b
   ·omega
   ·exact b.mono (mono 'o' 'o')
end
end L2.Tm
namespace L2.Tm
open PySem PyProof.Rows
variable{xs a b:AK}{i ia ib:Nat}{o:List Keyed}
def ky(p:Keyed):Int:=numOf p.1
theorem qE{p:Keyed}(e:xs[i]? =some p):ky p=K xs i:=by
 unfold K ky;rw[e]
structure MI (a b:AK) (o:List Keyed) (ia ib:Nat):Prop where
 la:ia<=a.size
 lb:ib<=b.size
 pm:o.Perm (a.toList.take ia++b.toList.take ib)
 so:o.Pairwise λx y=>ky x<=ky y
 xa: ∀x∈o,∀i,ia<=i->i<a.size->ky x<=K a i
 xb: ∀x∈o,∀i,ib<=i->i<b.size->ky x<=K b i
def Mg(a b:AK)(r:List Keyed):Prop:=r.Perm (a.toList++b.toList)/\r.Pairwise λx y=>ky x<=ky y
theorem zi9{p:Keyed}(h:o.Pairwise λx y=>ky x<=ky y)(q: ∀x∈o,ky x<=ky p):(o++ [p]).Pairwise λx y=>ky x<=ky y:=
 List.pairwise_append.mpr ⟨h,List.pairwise_singleton _ _,λx hx y hy=>by rw[Jm.mp hy];exact q x hx⟩
theorem zgc{p:Keyed}(e:xs[i]? =some p):xs.toList.take (i+1)=xs.toList.take i++ [p]:=by
 rw[JH,JG,e];rfl
theorem xk{p:Keyed}(e:xs[i]? =some p):i<xs.size:=(Array.getElem?_eq_some_iff.mp e).1
theorem MI.pushA{p:Keyed}(h:MI a b o ia ib)(sa:Sg a 0 a.size)(e:a[ia]? =some p)(q: ∀i,ib<=i->i<b.size->K a ia<=K b i):MI a b (o++ [p]) (ia+1) ib where
 la:=xk e
 lb:=h.lb
 pm:=by
  rw[zgc e,JM];exact(h.pm.append_right [p]).trans (by rw[JM];exact List.perm_append_comm.append_left _)
 so:=zi9 h.so λx hx=>by rw[qE e];exact h.xa x hx ia (Je _) (xk e)
 xa:=λx hx i u v=>by
  rcases Jr.mp hx with z|z
  ·exact h.xa x z i 'o' v
  ·rw[Jm.mp z,qE e];exact sa _ _ (Jv _) 'o' v
 xb:=λx hx i u v=>by
  rcases Jr.mp hx with z|z
  ·exact h.xb x z i u v
  ·rw[Jm.mp z,qE e];exact q i u v
theorem MI.pushB{p:Keyed}(h:MI a b o ia ib)(sb:Sg b 0 b.size)(e:b[ib]? =some p)(q: ∀i,ia<=i->i<a.size->K b ib<=K a i):MI a b (o++ [p]) ia (ib+1) where
 la:=h.la
 lb:=xk e
 pm:=by
  rw[zgc e,<-JM];exact h.pm.append_right [p]
 so:=zi9 h.so λx hx=>by rw[qE e];exact h.xb x hx ib (Je _) (xk e)
 xb:=λx hx i u v=>by
  rcases Jr.mp hx with z|z
  ·exact h.xb x z i 'o' v
  ·rw[Jm.mp z,qE e];exact sb _ _ (Jv _) 'o' v
 xa:=λx hx i u v=>by
  rcases Jr.mp hx with z|z
  ·exact h.xa x z i u v
  ·rw[Jm.mp z,qE e];exact q i u v
theorem uU{k:Nat}(h:i+(k+1)<=xs.size): ∃p,xs[i+k]? =some p/\(xs.toList.drop i).take (k+1)=(xs.toList.drop i).take k++ [p]:=by
 have hi:i+k<xs.size:=by omega
 refine⟨xs[i+k],getElem?_pos xs (i+k) hi,?_⟩;rw[JH,List.getElem?_drop,JG,getElem?_pos xs (i+k) hi];rfl
theorem MI.appA{a b:AK}(sa:Sg a 0 a.size){ib:Nat}: ∀(k:Nat) {o:List Keyed} {ia:Nat},MI a b o ia ib->ia+k<=a.size->(∀j i,j<k->ib<=i->i<b.size->K a (ia+j)<=K b i)->MI a b (o++(a.toList.drop ia).take k) (ia+k) ib
 |0,o,ia,h,_,_=>by rw[List.take_zero,Jt];exact h
 |k+1,o,ia,h,l,q=>by
  obtain⟨p,e,z⟩:=uU l;rw[z,<-JM];exact(MI.appA sa k h 'o' λj i u=>q j i 'o').pushA sa e λi=>q k i 'o'
theorem MI.appB{a b:AK}(sb:Sg b 0 b.size){ia:Nat}: ∀(k:Nat) {o:List Keyed} {ib:Nat},MI a b o ia ib->ib+k<=b.size->(∀j i,j<k->ia<=i->i<a.size->K b (ib+j)<=K a i)->MI a b (o++(b.toList.drop ib).take k) ia (ib+k)
 |0,o,ib,h,_,_=>by rw[List.take_zero,Jt];exact h
 |k+1,o,ib,h,l,q=>by
  obtain⟨p,e,z⟩:=uU l;rw[z,<-JM];exact(MI.appB sb k h 'o' λj i u=>q j i 'o').pushB sb e λi=>q k i 'o'
theorem MI.mg(h:MI a b o a.size b.size):Mg a b o:=
 ⟨h.pm.trans (by rw[List.take_of_length_le (by simp),List.take_of_length_le (by simp)]),h.so⟩
theorem qF{j:Nat}:(xs.extract i j).toList=(xs.toList.drop i).take (j - i):=by
 rw[Array.toList_extract,List.extract_eq_take_drop]
theorem MI.done{o:AK}(sa:Sg a 0 a.size)(sb:Sg b 0 b.size)(h:MI a b o.toList ia ib)(z:ib=b.size\/ia=a.size):Mg a b (o++a.extract ia a.size++b.extract ib b.size).toList:=by
 rw[Array.toList_append,Array.toList_append,qF,qF];have h1:=h.appA sa (a.size - ia) (by have:=h.la;omega) (λj i u v w=>by omega);rw[show ia+(a.size - ia)=a.size by have:=h.la;omega] at h1;have h2:=h1.appB sb (b.size - ib) (by have:=h.lb;omega) (λj i u v w=>by omega);rw[show ib+(b.size - ib)=b.size by have:=h.lb;omega] at h2;exact h2.mg
theorem MI.last{o:AK}(sa:Sg a 0 a.size)(sb:Sg b 0 b.size)(h:MI a b o.toList ia ib)(z:ia+1=a.size)(g: ∀i,i<b.size->K b i<=K a (a.size - 1)):Mg a b (o++b.extract ib b.size++a.extract ia a.size).toList:=by
 rw[Array.toList_append,Array.toList_append,qF,qF];have h1:=h.appB sb (b.size - ib) (by have:=h.lb;omega) (λj i u v w=>by
  obtain rfl:i=a.size - 1:=by omega
  exact g _ (by have:=h.lb;omega))
 rw[show ib+(b.size - ib)=b.size by have:=h.lb;omega] at h1;have h2:=h1.appA sa (a.size - ia) (by have:=h.la;omega) (λj i u v w=>by omega);rw[show ia+(a.size - ia)=a.size by have:=h.la;omega] at h2;exact h2.mg
def wt:Nat->StateT SortSt Sem Unit:=sortPriv% PySem.Builtin.setMinGallop
def kO:AK->AK->StateT SortSt Sem AK:=sortPriv% PySem.Builtin.mergeLo
theorem zjY(g:Nat):wt g=modify λs=>SortSt.mk' (kindOf s) (arrOf s) (pendingOf s) g (failedOf s):=rfl
def wu(a b out:AK)(ia ib:Nat):AK:=out++a.extract ia a.size++b.extract ib b.size
def fin2(a b out:AK)(ia ib:Nat):AK:=out++b.extract ib b.size++a.extract ia a.size
end L2.Tm
namespace L2.Tm
open PySem PyProof.Rows
abbrev GT:=Option AK×AK×Nat×Nat×Nat×Nat×Nat
abbrev IT:=Option AK×AK×Nat×Nat×Nat×Nat
abbrev OT:=Option AK×AK×Nat×Nat×Nat
section
variable (a b:AK)
noncomputable def lo4(mg ac bc ia:Nat)(out:AK)(ib:Nat):StateT SortSt Sem (ForInStep GT):=do
 let p<-elem' a ia
 if (ia+1+1==a.size)=true then pure (ForInStep.done (some (fin2 a b (out.push p) (ia+1) ib),out.push p,ia+1,ib,mg,ac,bc))
 else if (decide (ac<7) && decide (bc<7))=true then pure (ForInStep.done (none,out.push p,ia+1,ib,mg,ac,bc))
 else pure (ForInStep.yield (none,out.push p,ia+1,ib,mg,ac,bc))
noncomputable def lo3(mg ac bc ib:Nat)(out:AK)(ia:Nat):StateT SortSt Sem (ForInStep GT):=do
 let q<-elem' b ib
 if (ib+1==b.size)=true then pure (ForInStep.done (some (wu a b (out.push q) ia (ib+1)),out.push q,ia,ib+1,mg,ac,bc))
 else do
  let p<-elem' a ia
  let x<-wk true p b (ib+1) (b.size - (ib+1)) 0
  match x with
  |some k=>
   if k>0 then
    if (ib+1+k==b.size)=true then pure (ForInStep.done (some (wu a b (out.push q++b.extract (ib+1) (ib+1+k)) ia (ib+1+k)),out.push q++b.extract (ib+1) (ib+1+k),ia,ib+1+k,mg,ac,k))
    else lo4 a b mg ac k ia (out.push q++b.extract (ib+1) (ib+1+k)) (ib+1+k)
   else lo4 a b mg ac k ia (out.push q) (ib+1)
  |_=>pure (ForInStep.done (some (wu a b (out.push q) ia (ib+1)),out.push q,ia,ib+1,mg,ac,bc))
noncomputable def lo2(ia ib ac bc:Nat)(out:AK)(mg:Nat):StateT SortSt Sem (ForInStep GT):=do
 wt mg
 let q<-elem' b ib
 let x<-wk false q a ia (a.size - ia) 0
 match x with
 |some k=>
  if k>0 then
   if (ia+k+1==a.size)=true then pure (ForInStep.done (some (fin2 a b (out++a.extract ia (ia+k)) (ia+k) ib),out++a.extract ia (ia+k),ia+k,ib,mg,k,bc))
   else if (ia+k==a.size)=true then pure (ForInStep.done (some (wu a b (out++a.extract ia (ia+k)) (ia+k) ib),out++a.extract ia (ia+k),ia+k,ib,mg,k,bc))
   else lo3 a b mg k bc ib (out++a.extract ia (ia+k)) (ia+k)
  else lo3 a b mg k bc ib out ia
 |_=>pure (ForInStep.done (some (wu a b out ia ib),out,ia,ib,mg,ac,bc))
noncomputable def lo1(out:AK)(ia ib mg ac bc:Nat):StateT SortSt Sem (ForInStep GT):=if mg>1 then lo2 a b ia ib ac bc out (mg - 1) else lo2 a b ia ib ac bc out mg
noncomputable def loB(out:AK)(ia ib bc mg:Nat):StateT SortSt Sem (ForInStep IT):=do
 let q<-elem' b ib
 if (ib+1==b.size)=true then pure (ForInStep.done (some (wu a b (out.push q) ia (ib+1)),out.push q,ia,ib+1,0,bc+1))
 else if bc+1≥mg then pure (ForInStep.done (none,out.push q,ia,ib+1,0,bc+1))
 else pure (ForInStep.yield (none,out.push q,ia,ib+1,0,bc+1))
noncomputable def loA(out:AK)(ia ib ac mg:Nat):StateT SortSt Sem (ForInStep IT):=do
 let p<-elem' a ia
 if (ia+1+1==a.size)=true then pure (ForInStep.done (some (fin2 a b (out.push p) (ia+1) ib),out.push p,ia+1,ib,ac+1,0))
 else if ac+1≥mg then pure (ForInStep.done (none,out.push p,ia+1,ib,ac+1,0))
 else pure (ForInStep.yield (none,out.push p,ia+1,ib,ac+1,0))
noncomputable def loI(mg:Nat)(out:AK)(ia ib ac bc:Nat):StateT SortSt Sem (ForInStep IT):=do
 let q<-elem' b ib
 let p<-elem' a ia
 let x<-lt' q p
 match x with
 |some y=>if y=true then loB a b out ia ib bc mg else loA a b out ia ib ac mg
 |_=>pure (ForInStep.done (some (wu a b out ia ib),out,ia,ib,ac,bc))
noncomputable def loE(r:Option AK)(out:AK)(ia ib mg:Nat):StateT SortSt Sem (ForInStep OT):=match r with
 |some r=>pure (ForInStep.done (some r,out,ia,ib,mg))
 |none=>do
  wt (mg+1)
  pure (ForInStep.yield (none,out,ia,ib,mg+1))
noncomputable def loG(r:Option AK)(out:AK)(ia ib ac bc mg:Nat):StateT SortSt Sem (ForInStep OT):=match r with
 |some r=>pure (ForInStep.done (some r,out,ia,ib,mg))
 |none=>do
  rule "list.sort.gallop"
  let c<-forIn [0:a.size+b.size] ((none,out,ia,ib,mg+1,ac,bc):GT) λ_ c=>lo1 a b c.2.1 c.2.2.1 c.2.2.2.1 c.2.2.2.2.1 c.2.2.2.2.2.1 c.2.2.2.2.2.2
  loE c.1 c.2.1 c.2.2.1 c.2.2.2.1 c.2.2.2.2.1
noncomputable def loO(out:AK)(ia ib mg:Nat):StateT SortSt Sem (ForInStep OT):=do
 let c<-forIn [0:a.size+b.size] ((none,out,ia,ib,0,0):IT) λ_ c=>loI a b mg c.2.1 c.2.2.1 c.2.2.2.1 c.2.2.2.2.1 c.2.2.2.2.2
 loG a b c.1 c.2.1 c.2.2.1 c.2.2.2.1 c.2.2.2.2.1 c.2.2.2.2.2 mg
noncomputable def mlast(r:Option AK):StateT SortSt Sem AK:=match r with
 |some r=>pure r
 |none=>unsupported "internal:list.sort.merge-bound"
theorem zhA:kO a b=(do
  rule "list.sort.merge-lo"
  let p<-elem' b 0
  if (1==b.size)=true then pure (wu a b #[p] 0 1)
  else if (0+1==a.size)=true then pure (fin2 a b #[p] 0 1)
  else do
   let g<-get
   let c<-forIn [0:a.size+b.size] ((none, #[p],0,1,gallopOf g):OT) λ_ c=>loO a b c.2.1 c.2.2.1 c.2.2.2.1 c.2.2.2.2
   mlast c.1):=by kernel_rfl
end
end L2.Tm
namespace L2.Tm
open PySem PyProof.Rows
variable{a b out:AK}{ia ib:Nat}
def Sm(st st':SortSt):Prop:=kindOf st'=oneType'/\arrOf st'=arrOf st/\pendingOf st'=pendingOf st/\failedOf st'=failedOf st
section
variable {prog:Program} {w:World} {A:Around} {E:Value->Shared->Prop} {s:Shared}
theorem uV{st:SortSt}{g:Nat}{Q:Unit->SortSt->Prop}(h: ∀st',(∀st0,Sm st0 st->Sm st0 st')->Q () st'):wpS (model prog w) A E s (wt g) Q st:=by
 rw[zjY];exact wpS_modify (h _ λst0 z=>z)
theorem MI.pA{p:Keyed}(h:MI a b out.toList ia ib)(sa:Sg a 0 a.size)(e:a[ia]? =some p)(q: ∀i,ib<=i->i<b.size->K a ia<=K b i):MI a b (out.push p).toList (ia+1) ib:=by
 rw[Array.toList_push];exact h.pushA sa e q
theorem MI.pB{p:Keyed}(h:MI a b out.toList ia ib)(sb:Sg b 0 b.size)(e:b[ib]? =some p)(q: ∀i,ia<=i->i<a.size->K b ib<=K a i):MI a b (out.push p).toList ia (ib+1):=by
 rw[Array.toList_push];exact h.pushB sb e q
theorem MI.eA{k:Nat}(h:MI a b out.toList ia ib)(sa:Sg a 0 a.size)(l:ia+k<=a.size)(q: ∀j i,j<k->ib<=i->i<b.size->K a (ia+j)<=K b i):MI a b (out++a.extract ia (ia+k)).toList (ia+k) ib:=by
 rw[Array.toList_append,qF,Nat.add_sub_cancel_left];exact h.appA sa k l q
theorem MI.eB{k:Nat}(h:MI a b out.toList ia ib)(sb:Sg b 0 b.size)(l:ib+k<=b.size)(q: ∀j i,j<k->ia<=i->i<a.size->K b (ib+j)<=K a i):MI a b (out++b.extract ib (ib+k)).toList ia (ib+k):=by
 rw[Array.toList_append,qF,Nat.add_sub_cancel_left];exact h.appB sb k l q
end
end L2.Tm
namespace L2.Tm
open PySem PyProof.Rows
variable{α β γ ρ:Type}{st st':SortSt}{G:AK->Prop}{n:Nat}
def PG(st:SortSt)(G:AK->Prop)(L:α->β->γ->Prop)(r:ForInStep (Option AK×α×β×γ×ρ))(st':SortSt):Prop:=Sm st st'/\match r with
 | .done c=>(∃r z,c=(some r,z)/\G r)\/ ∃out ia ib z,c=(none,out,ia,ib,z)/\L out ia ib
 | .yield c=> ∃out ia ib z,c=(none,out,ia,ib,z)/\L out ia ib
def PoR(st:SortSt)(G:AK->Prop)(L:α->β->γ->Prop)(r:ForInStep (Option AK×α×β×γ×ρ))(st':SortSt):Prop:=Sm st st'/\match r with
 | .done c=> ∃r z,c=(some r,z)/\G r
 | .yield c=> ∃out ia ib z,c=(none,out,ia,ib,z)/\L out ia ib
section
variable {prog:Program} {w:World} {A:Around} {E:Value->Shared->Prop} {s:Shared} {a b:AK}
theorem PG.fin{L:α->β->γ->Prop}{r:AK}{z:α×β×γ×ρ}(h:Sm st st')(g:G r):PG st G L (.done (some r,z)) st':=⟨h, .inl ⟨r,z,rfl,g⟩⟩
theorem PG.brk{L:α->β->γ->Prop}{out:α}{ia:β}{ib:γ}{z:ρ}(h:Sm st st')(l:L out ia ib):PG st G L (.done (none,out,ia,ib,z)) st':=⟨h, .inr ⟨out,ia,ib,z,rfl,l⟩⟩
theorem PG.yld{L:α->β->γ->Prop}{out:α}{ia:β}{ib:γ}{z:ρ}(h:Sm st st')(l:L out ia ib):PG st G L (.yield (none,out,ia,ib,z)) st':=⟨h,out,ia,ib,z,rfl,l⟩
theorem PoR.fin{L:α->β->γ->Prop}{r:AK}{z:α×β×γ×ρ}(h:Sm st st')(g:G r):PoR st G L (.done (some r,z)) st':=⟨h,r,z,rfl,g⟩
theorem PoR.yld{L:α->β->γ->Prop}{out:α}{ia:β}{ib:γ}{z:ρ}(h:Sm st st')(l:L out ia ib):PoR st G L (.yield (none,out,ia,ib,z)) st':=⟨h,out,ia,ib,z,rfl,l⟩
theorem uW{f:Nat->(Option AK×α×β×γ×ρ)->StateT SortSt Sem (ForInStep (Option AK×α×β×γ×ρ))}{st:SortSt}{G:AK->Prop}(L:Nat->α->β->γ->Prop){Le:α->β->γ->Prop}{n:Nat}{Q:(Option AK×α×β×γ×ρ)->SortSt->Prop}
  (hm: ∀y out ia ib,L (y+1) out ia ib->Le out ia ib) (hn:0<n) (step: ∀y st' out ia ib z,Sm st st'->L y out ia ib->wpS (model prog w) A E s (f y (none,out,ia,ib,z)) (PG st G (L (y+1))) st')
  (p1: ∀st' r z,Sm st st'->G r->Q (some r,z) st') (p2: ∀st' out ia ib z,Sm st st'->Le out ia ib->Q (none,out,ia,ib,z) st')
  {st0:SortSt} {out:α} {ia:β} {ib:γ} {z:ρ} (s0:Sm st st0) (l:L 0 out ia ib):wpS (model prog w) A E s (forIn [0:n] (none,out,ia,ib,z) f) Q st0:=by
 refine wpS_forRange (I:=λy c st'=>Sm st st'/\ ∃out ia ib z,c=(none,out,ia,ib,z)/\L y out ia ib) (λy c st' _ _ ⟨s1,out,ia,ib,z,e,l⟩=> ?_) (λc st' ⟨s1,out,ia,ib,z,e,l⟩=> ?_) ⟨s0,out,ia,ib,z,rfl,l⟩
 ·subst e;refine wpS_mono (step y st' out ia ib z s1 l) λr st2 h=> ?_;cases r with
  |done c=>
   obtain⟨s2,h⟩:=h;rcases h with⟨r,z,rfl,g⟩|⟨o,i,j,z,rfl,l⟩
   ·exact p1 st2 r z s2 g
   ·exact p2 st2 o i j z s2 (hm _ _ _ _ l)
  |yield c=>exact h
 ·subst e;obtain⟨k,hk⟩: ∃k,max 0 n=k+1:=⟨n - 1,'o'⟩
  rw[hk] at l;exact p2 st' out ia ib z s1 (hm _ _ _ _ l)
theorem outer{Q:AK->SortSt->Prop}{st0:SortSt}(L:Nat->α->β->γ->Prop){f:Nat->(Option AK×α×β×γ×Nat)->StateT SortSt Sem (ForInStep (Option AK×α×β×γ×Nat))}(h: ∀r st',G r->Sm st st'->Q r st')(no: ∀o i j,¬L n o i j)
  (step: ∀y st' out ia ib z,Sm st st'->L y out ia ib->wpS (model prog w) A E s (f y (none,out,ia,ib,z)) (PoR st G (L (y+1))) st') {out:α} {ia:β} {ib:γ} {z:Nat} (s0:Sm st st0) (l:L 0 out ia ib):
  wpS (model prog w) A E s (forIn [0:n] (none,out,ia,ib,z) f) (λc st'=>wpS (model prog w) A E s (mlast c.1) Q st') st0:=by
 refine wpS_forRange (I:=λy c st'=>Sm st st'/\ ∃out ia ib z,c=(none,out,ia,ib,z)/\L y out ia ib) (λy c st' _ _ ⟨s1,out,ia,ib,z,e,l⟩=> ?_) (λc st' ⟨s1,out,ia,ib,z,e,l⟩=>absurd (Nat.zero_max n ▸ l) (no out ia ib)) ⟨s0,out,ia,ib,z,rfl,l⟩;subst e;refine wpS_mono (step y st' out ia ib z s1 l) λr st2 h2=> ?_;cases r with
 |done c=>
  obtain⟨s2,r,z,rfl,g⟩:=h2;exact JZ (h r st2 g s2)
 |yield c=>exact h2
theorem ifB{M:Model}{m:Nat}{x y:StateT SortSt Sem α}{Q:α->SortSt->Prop}(h1:m=n->wpS M A E s x Q st)(h2:m≠n->wpS M A E s y Q st):wpS M A E s (if (m==n)=true then x else y) Q st:=by
 by_cases h:m=n
 ·rw[Jg (by rw[h];exact beq_self_eq_true n)];exact h1 h
 ·rw[Jf (by rw[beq_iff_eq];exact h)];exact h2 h
theorem ifC{M:Model}{c:Prop}[Decidable c]{x y:StateT SortSt Sem α}{Q:α->SortSt->Prop}(h1:c->wpS M A E s x Q st)(h2: ¬c->wpS M A E s y Q st):wpS M A E s (if c then x else y) Q st:=by
 by_cases h:c
 ·rw[Jg h];exact h1 h
 ·rw[Jf h];exact h2 h
structure Rn2 (a b:AK):Prop where
 ha:IntKeys a
 hb:IntKeys b
 sa:Sg a 0 a.size
 sb:Sg b 0 b.size
def LI(a b:AK)(x:Nat)(out:AK)(ia ib:Nat):Prop:=MI a b out.toList ia ib/\ia+1<a.size/\ib<b.size/\x<=ia+ib
def Mt(a b r:AK):Prop:=Mg a b r.toList
variable {st st':SortSt} {out:AK} {ia ib x mg ac bc:Nat}
theorem zlg(R:Rn2 a b)(hl: ∀i,i<b.size->K b i<=K a (a.size - 1))(s1:Sm st st')(m:MI a b out.toList ia ib)(u:ia+1<a.size)(v:ib<b.size)(hx:x<=ia+ib)(g: ∀i,ib<=i->i<b.size->K a ia<=K b i):
  wpS (model prog w) A E s (lo4 a b mg ac bc ia out ib) (PG st (Mt a b) (LI a b x)) st':=by
 obtain⟨p,tp,ep,kp⟩:=int_at R.ha (i:=ia) 'o';have m':=m.pA R.sa ep g;refine JY (yM ep (ifB (λz=>JZ (PG.fin s1 (m'.last R.sa R.sb z hl))) λz=> ?_));have l:LI a b x (out.push p) (ia+1) ib:=⟨m','o',v,'o'⟩
 exact ifC (λ_=>JZ (PG.brk s1 l)) λ_=>JZ (PG.yld s1 l)
theorem zlh(R:Rn2 a b)(hl: ∀i,i<b.size->K b i<=K a (a.size - 1))(s1:Sm st st')(m:MI a b out.toList ia ib)(u:ia+1<a.size)(v:ib<b.size)(hx:x<=ia+ib)(g: ∀i,ia<=i->i<a.size->K b ib<=K a i):
  wpS (model prog w) A E s (lo3 a b mg ac bc ib out ia) (PG st (Mt a b) (LI a b x)) st':=by
 obtain⟨q,tq,eq,kq⟩:=int_at R.hb v;have m3:=m.pB R.sb eq g;refine JY (yM eq (ifB (λz=>JZ (PG.fin s1 (m3.done R.sa R.sb (.inl z)))) λz=> ?_));obtain⟨p,tp,ep,kp⟩:=int_at R.ha (i:=ia) 'o';have v2:ib+1<b.size:=by omega
 refine JY (yM ep (JY (gallop s1.1 R.hb kp 'o' 'o' (λi j c d e=>R.sb i j (Jv _) d 'o') λk hk f1 f2=> ?_)));have g4: ∀i,ib+1+k<=i->i<b.size->K a ia<=K b i:=λi c d=>by
  have:=f2 (i - (ib+1)) 'o' 'o';rw[show ib+1+(i - (ib+1))=i by omega] at this;exact Int.not_lt.mp this
 refine ifC (λzk=> ?_) λzk=> ?_
 ·have m4:=m3.eB (k:=k) R.sb 'o' λj i c d f=>Int.le_trans (Int.le_of_lt (show K b (ib+1+j)<K a ia from f1 j c)) (R.sa _ _ (Jv _) d f);refine ifB (λz=>JZ (PG.fin s1 (m4.done R.sa R.sb (.inl z)))) λz=> ?_;exact zlg R hl s1 m4 u 'o' 'o' g4
 ·obtain rfl:k=0:=by omega
  exact zlg R hl s1 m3 u v2 'o' g4
theorem zli(R:Rn2 a b)(hl: ∀i,i<b.size->K b i<=K a (a.size - 1))(s0:Sm st st')(l:LI a b x out ia ib):
  wpS (model prog w) A E s (lo2 a b ia ib ac bc out mg) (PG st (Mt a b) (LI a b x)) st':=by
 obtain⟨m,u,v,hx⟩:=l;refine JY (uV λst1 k1=> ?_);have s1:=k1 _ s0;obtain⟨q,tq,eq,kq⟩:=int_at R.hb v;refine JY (yM eq (JY (gallop s1.1 R.ha kq 'o' 'o' (λi j c d e=>R.sa i j (Jv _) d 'o') λk hk f1 f2=> ?_)));have g2: ∀i,ia+k<=i->i<a.size->K b ib<=K a i:=λi c d=>by
  have:=f2 (i - ia) 'o' 'o';rw[show ia+(i - ia)=i by omega] at this;exact Int.le_of_lt (Int.not_le.mp this)
 refine ifC (λzk=> ?_) λzk=> ?_
 ·have m2:=m.eA (k:=k) R.sa 'o' λj i c d f=>Int.le_trans (show K a (ia+j)<=K b ib from f1 j c) (R.sb _ _ (Jv _) d f);refine ifB (λz=>JZ (PG.fin s1 (m2.last R.sa R.sb z hl))) λz=>ifB (λz=>JZ (PG.fin s1 (m2.done R.sa R.sb (.inr z)))) λz'=> ?_;exact zlh R hl s1 m2 'o' v 'o' g2
 ·obtain rfl:k=0:=by omega
  exact zlh R hl s1 m u v hx g2
theorem zoK(R:Rn2 a b)(hl: ∀i,i<b.size->K b i<=K a (a.size - 1))(s1:Sm st st')(l:LI a b x out ia ib):
  wpS (model prog w) A E s (loI a b mg out ia ib ac bc) (PG st (Mt a b) (LI a b (x+1))) st':=by
 obtain⟨m,u,v,hx⟩:=l;obtain⟨p,tp,ep,kp⟩:=int_at R.ha (i:=ia) 'o';obtain⟨q,tq,eq,kq⟩:=int_at R.hb v;refine JY (yM eq (JY (yM ep (JY (ltP s1.1 kq kp ?_)))));refine ifC (λz=> ?_) λz=> ?_
 ·have z:=of_decide_eq_true z;have m':=m.pB R.sb eq λi c d=>Int.le_trans (Int.le_of_lt z) (R.sa _ _ (Jv _) c d);refine JY (yM eq (ifB (λz=>JZ (PG.fin s1 (m'.done R.sa R.sb (.inl z)))) λz3=> ?_));have l:LI a b (x+1) (out.push q) ia (ib+1):=⟨m',u,'o','o'⟩
  exact ifC (λ_=>JZ (PG.brk s1 l)) λ_=>JZ (PG.yld s1 l)
 ·have z: ¬K b ib<K a ia:=λh=>z (JO h);have m':=m.pA R.sa ep λi c d=>Int.le_trans (Int.not_lt.mp z) (R.sb _ _ (Jv _) c d);refine JY (yM ep (ifB (λz=>JZ (PG.fin s1 (m'.last R.sa R.sb z hl))) λz3=> ?_));have l:LI a b (x+1) (out.push p) (ia+1) ib:=⟨m','o',v,'o'⟩
  exact ifC (λ_=>JZ (PG.brk s1 l)) λ_=>JZ (PG.yld s1 l)
theorem zoL{L:AK->Nat->Nat->Prop}(s1:Sm st st')(l:L out ia ib):wpS (model prog w) A E s (loE none out ia ib mg) (PoR st G L) st':=JY (m:=wt (mg+1)) (uV λst3 k3=>JZ (PoR.yld (k3 _ s1) l))
theorem zoM(R:Rn2 a b)(hl: ∀i,i<b.size->K b i<=K a (a.size - 1))(s1:Sm st st')(l:LI a b x out ia ib):
  wpS (model prog w) A E s (loG a b none out ia ib ac bc mg) (PoR st (Mt a b) (LI a b x)) st':=by
 refine JY (wpS_lift (wpAny_rule ⟨rfl,JY (uW (G:=Mt a b) (λ_=>LI a b x) (Le:=LI a b x) (λ_ _ _ _ h=>h) (Jy (Nat.lt_of_le_of_lt (Jv _) l.2.2.1) (Nat.le_add_left _ _)) (λy st2 o i j z s2 l2=> ?_) (λst2 r z s2 g=>JZ (PoR.fin s2 g)) (λst2 o i j z s2 l2=>zoL s2 l2) s1 l)⟩));exact ifC (λ_=>zli R hl s2 l2) λ_=>zli R hl s2 l2
theorem zoN(R:Rn2 a b)(hl: ∀i,i<b.size->K b i<=K a (a.size - 1))(s1:Sm st st')(l:LI a b x out ia ib):
  wpS (model prog w) A E s (loO a b out ia ib mg) (PoR st (Mt a b) (LI a b (x+1))) st':=by
 refine JY (uW (G:=Mt a b) (λy=>LI a b (x+y)) (Le:=LI a b (x+1)) (λy o i j h=>⟨h.1,h.2.1,h.2.2.1,JE (Nat.add_le_add_left (Nat.le_add_left 1 y) x) h.2.2.2⟩) (Jy (Nat.lt_of_le_of_lt (Jv _) l.2.2.1) (Nat.le_add_left _ _)) (λy st2 o i j z s2 l2=> ?_) (λst2 r z s2 g=>JZ (PoR.fin s2 g)) (λst2 o i j z s2 l2=>zoM R hl s2 l2) s1 l);exact zoK R hl s2 l2
theorem mergeLo{Q:AK->SortSt->Prop}(hk:kindOf st=oneType')(ha:IntKeys a)(hb:IntKeys b)(sa:Sg a 0 a.size)(sb:Sg b 0 b.size)(na:1<=a.size)(nb:1<=b.size)(h1:K b 0<=K a 0)(hl: ∀i,i<b.size->K b i<=K a (a.size - 1))
  (h: ∀r st',Mg a b r.toList->Sm st st'->Q r st'):wpS (model prog w) A E s (kO a b) Q st:=by
 rw[zhA];obtain⟨p0,t0,e0,k0⟩:=int_at hb (i:=0) 'o';have m0:MI a b (#[]:AK).toList 0 0:=⟨Jv _,Jv _,by simp,List.Pairwise.nil,λ_ h=>by simp at h,λ_ h=>by simp at h⟩
 have m1:MI a b (#[p0]:AK).toList 0 1:=m0.pushB sb e0 λi u v=>Int.le_trans h1 (sa _ _ (Je _) u v);have s0:Sm st st:=⟨hk,rfl,rfl,rfl⟩
 refine JY (wpS_lift (wpAny_rule ⟨rfl,JY (yM e0 (ifB (λz=>JZ (h _ _ (m1.done sa sb (.inl z)) s0)) λz1=>ifB (λz=>JZ (h _ _ (m1.last sa sb z hl) s0)) λz2=>JY (wpS_get (JY ?_))))⟩));exact outer (G:=Mt a b) (λx=>LI a b (x+1)) h (λo i j l=>by obtain⟨_,u,v,z⟩:=l;omega) (λy st2 o i j z s1 l=>zoN ⟨ha,hb,sa,sb⟩ hl s1 l) s0 ⟨m1,'o','o','o'⟩
end
end L2.Tm
namespace L2.Tm
open PySem PyProof.Rows
variable{o:List Keyed}{n na:Nat}{a b out:AK}
structure MH (a b:AK) (o:List Keyed) (na nb:Nat):Prop where
 la:na<=a.size
 lb:nb<=b.size
 pm:o.Perm (a.toList.drop na++b.toList.drop nb)
 so:o.Pairwise λx y=>ky y<=ky x
 xa: ∀x∈o,∀i,i<na->K a i<=ky x
 xb: ∀x∈o,∀i,i<nb->K b i<=ky x
theorem zhB{p:Keyed}(h:o.Pairwise λx y=>ky y<=ky x)(q: ∀x∈o,ky p<=ky x):(o++ [p]).Pairwise λx y=>ky y<=ky x:=
 List.pairwise_append.mpr ⟨h,List.pairwise_singleton _ _,λx hx y hy=>by rw[Jm.mp hy];exact q x hx⟩
theorem zhC{xs:AK}{p:Keyed}(e:xs[n]? =some p):xs.toList.drop n=p::xs.toList.drop (n+1):=by
 have h:=xk e;rw[List.drop_eq_getElem_cons (by simpa using h)];congr 1;rw[getElem?_pos xs n h] at e;simpa using e
theorem MH.pushA{nb:Nat}{p:Keyed}(h:MH a b o (n+1) nb)(sa:Sg a 0 a.size)(e:a[n]? =some p)(q: ∀i,i<nb->K b i<=K a n):MH a b (o++ [p]) n nb where
 la:=Nat.le_of_lt (xk e)
 lb:=h.lb
 pm:=by
  rw[zhC e];exact(h.pm.append_right [p]).trans List.perm_append_comm
 so:=zhB h.so λx hx=>by rw[qE e];exact h.xa x hx n (Nat.lt_succ_self _)
 xa:=λx hx i u=>by
  rcases Jr.mp hx with z|z
  ·exact h.xa x z i 'o'
  ·rw[Jm.mp z,qE e];exact sa _ _ (Jv _) (Nat.le_of_lt u) (xk e)
 xb:=λx hx i u=>by
  rcases Jr.mp hx with z|z
  ·exact h.xb x z i u
  ·rw[Jm.mp z,qE e];exact q i u
theorem MH.pushB{p:Keyed}(h:MH a b o na (n+1))(sb:Sg b 0 b.size)(e:b[n]? =some p)(q: ∀i,i<na->K a i<=K b n):MH a b (o++ [p]) na n where
 la:=h.la
 lb:=Nat.le_of_lt (xk e)
 pm:=by
  rw[zhC e];exact(h.pm.append_right [p]).trans (by rw[JM];exact List.perm_append_comm.append_left _)
 so:=zhB h.so λx hx=>by rw[qE e];exact h.xb x hx n (Nat.lt_succ_self _)
 xb:=λx hx i u=>by
  rcases Jr.mp hx with z|z
  ·exact h.xb x z i 'o'
  ·rw[Jm.mp z,qE e];exact sb _ _ (Jv _) (Nat.le_of_lt u) (xk e)
 xa:=λx hx i u=>by
  rcases Jr.mp hx with z|z
  ·exact h.xa x z i u
  ·rw[Jm.mp z,qE e];exact q i u
theorem MH.appA{a b:AK}(sa:Sg a 0 a.size){nb t:Nat}: ∀(k:Nat) {o:List Keyed},MH a b o (t+k) nb->(∀j i,t<=j->j<t+k->i<nb->K b i<=K a j)->MH a b (o++((a.toList.drop t).take k).reverse) t nb
 |0,o,h,_=>by rw[List.take_zero,List.reverse_nil,Jt];exact h
 |k+1,o,h,q=>by
  obtain⟨p,e,z⟩:=uU (i:=t) (k:=k) h.la;rw[z,List.reverse_append,List.reverse_singleton,<-JM];exact(h.pushA (n:=t+k) sa e λi u=>q _ i 'o' 'o' u).appA sa k λj i c d f=>q j i c 'o' f
theorem MH.appB{a b:AK}(sb:Sg b 0 b.size){na t:Nat}: ∀(k:Nat) {o:List Keyed},MH a b o na (t+k)->(∀j i,t<=j->j<t+k->i<na->K a i<=K b j)->MH a b (o++((b.toList.drop t).take k).reverse) na t
 |0,o,h,_=>by rw[List.take_zero,List.reverse_nil,Jt];exact h
 |k+1,o,h,q=>by
  obtain⟨p,e,z⟩:=uU (i:=t) (k:=k) h.lb;rw[z,List.reverse_append,List.reverse_singleton,<-JM];exact(h.pushB (n:=t+k) sb e λi u=>q _ i 'o' 'o' u).appB sb k λj i c d f=>q j i c 'o' f
theorem MH.mg(h:MH a b o 0 0):Mg a b o.reverse:=
 ⟨(List.reverse_perm o).trans (by have:=h.pm;rwa[List.drop_zero,List.drop_zero] at this),List.pairwise_reverse.mpr h.so⟩
theorem MH.done{o:AK}{nb:Nat}(sa:Sg a 0 a.size)(sb:Sg b 0 b.size)(h:MH a b o.toList na nb)(z:na=0\/nb=0):Mg a b (a.extract 0 na++b.extract 0 nb++o.reverse).toList:=by
 have h1:=(show MH a b o.toList na (0+nb) by rw[Nat.zero_add];exact h).appB sb nb (λj i u v w=>by omega);have h2:=(show MH a b _ (0+na) 0 by rw[Nat.zero_add];exact h1).appA sa na (λj i u v w=>by omega)
 have:=h2.mg;rw[List.reverse_append,List.reverse_append,List.reverse_reverse,List.reverse_reverse] at this;rw[Array.toList_append,Array.toList_append,qF,qF,Array.toList_reverse,JM];exact this
theorem MH.first{o:AK}{nb:Nat}(sa:Sg a 0 a.size)(sb:Sg b 0 b.size)(h:MH a b o.toList na nb)(z:nb=1)(g:K b 0<=K a 0):Mg a b (b.extract 0 nb++a.extract 0 na++o.reverse).toList:=by
 have h1:=(show MH a b o.toList (0+na) nb by rw[Nat.zero_add];exact h).appA sa na (λj i u v w=>by
  obtain rfl:i=0:=by omega
  exact Int.le_trans g (sa _ _ (Je _) u (by have:=h.la;omega)))
 have h2:=(show MH a b _ 0 (0+nb) by rw[Nat.zero_add];exact h1).appB sb nb (λj i u v w=>by omega)
 have:=h2.mg;rw[List.reverse_append,List.reverse_append,List.reverse_reverse,List.reverse_reverse] at this;rw[Array.toList_append,Array.toList_append,qF,qF,Array.toList_reverse,JM];exact this
def kP:AK->AK->StateT SortSt Sem AK:=sortPriv% PySem.Builtin.mergeHi
def wv(a b out:AK)(na nb:Nat):AK:=a.extract 0 na++b.extract 0 nb++out.reverse
def uX(a b out:AK)(na nb:Nat):AK:=b.extract 0 nb++a.extract 0 na++out.reverse
section
variable (a b:AK)
abbrev GH:=Option AK×Nat×Nat×AK×Nat×Nat×Nat
abbrev IH:=Option AK×Nat×Nat×AK×Nat×Nat
abbrev OH:=Option AK×Nat×Nat×AK×Nat
noncomputable def hi4(mg ac bc na:Nat)(out:AK)(nb:Nat):StateT SortSt Sem (ForInStep GH):=do
 let p<-elem' a (na - 1)
 if (na - 1==0)=true then pure (ForInStep.done (some (wv a b (out.push p) (na - 1) nb),na - 1,nb,out.push p,mg,ac,bc))
 else if (decide (ac<7) && decide (bc<7))=true then pure (ForInStep.done (none,na - 1,nb,out.push p,mg,ac,bc))
 else pure (ForInStep.yield (none,na - 1,nb,out.push p,mg,ac,bc))
noncomputable def hi3(mg ac bc nb:Nat)(out:AK)(na:Nat):StateT SortSt Sem (ForInStep GH):=do
 let q<-elem' b (nb - 1)
 if (nb - 1==1)=true then pure (ForInStep.done (some (uX a b (out.push q) na (nb - 1)),na,nb - 1,out.push q,mg,ac,bc))
 else do
  let p<-elem' a (na - 1)
  let x<-wk true p b 0 (nb - 1) (nb - 1 - 1)
  match x with
  |some t=>
   if nb - 1 - t>0 then
    if (t==1)=true then pure (ForInStep.done (some (uX a b (out.push q++(b.extract t (nb - 1)).reverse) na t),na,t,out.push q++(b.extract t (nb - 1)).reverse,mg,ac,nb - 1 - t))
    else if (t==0)=true then pure (ForInStep.done (some (wv a b (out.push q++(b.extract t (nb - 1)).reverse) na t),na,t,out.push q++(b.extract t (nb - 1)).reverse,mg,ac,nb - 1 - t))
    else hi4 a b mg ac (nb - 1 - t) na (out.push q++(b.extract t (nb - 1)).reverse) t
   else hi4 a b mg ac (nb - 1 - t) na (out.push q) (nb - 1)
  |_=>pure (ForInStep.done (some (wv a b (out.push q) na (nb - 1)),na,nb - 1,out.push q,mg,ac,bc))
noncomputable def hi2(na nb ac bc:Nat)(out:AK)(mg:Nat):StateT SortSt Sem (ForInStep GH):=do
 wt mg
 let q<-elem' b (nb - 1)
 let x<-wk false q a 0 na (na - 1)
 match x with
 |some t=>
  if na - t>0 then
   if (t==0)=true then pure (ForInStep.done (some (wv a b (out++(a.extract t na).reverse) t nb),t,nb,out++(a.extract t na).reverse,mg,na - t,bc))
   else hi3 a b mg (na - t) bc nb (out++(a.extract t na).reverse) t
  else hi3 a b mg (na - t) bc nb out na
 |_=>pure (ForInStep.done (some (wv a b out na nb),na,nb,out,mg,ac,bc))
noncomputable def hi1(na nb:Nat)(out:AK)(mg ac bc:Nat):StateT SortSt Sem (ForInStep GH):=if mg>1 then hi2 a b na nb ac bc out (mg - 1) else hi2 a b na nb ac bc out mg
noncomputable def hiA(na nb:Nat)(out:AK)(ac mg:Nat):StateT SortSt Sem (ForInStep IH):=do
 let p<-elem' a (na - 1)
 if (na - 1==0)=true then pure (ForInStep.done (some (wv a b (out.push p) (na - 1) nb),na - 1,nb,out.push p,ac+1,0))
 else if ac+1≥mg then pure (ForInStep.done (none,na - 1,nb,out.push p,ac+1,0))
 else pure (ForInStep.yield (none,na - 1,nb,out.push p,ac+1,0))
noncomputable def hiB(na nb:Nat)(out:AK)(bc mg:Nat):StateT SortSt Sem (ForInStep IH):=do
 let q<-elem' b (nb - 1)
 if (nb - 1==1)=true then pure (ForInStep.done (some (uX a b (out.push q) na (nb - 1)),na,nb - 1,out.push q,0,bc+1))
 else if bc+1≥mg then pure (ForInStep.done (none,na,nb - 1,out.push q,0,bc+1))
 else pure (ForInStep.yield (none,na,nb - 1,out.push q,0,bc+1))
noncomputable def hiI(mg na nb:Nat)(out:AK)(ac bc:Nat):StateT SortSt Sem (ForInStep IH):=do
 let q<-elem' b (nb - 1)
 let p<-elem' a (na - 1)
 let x<-lt' q p
 match x with
 |some y=>if y=true then hiA a b na nb out ac mg else hiB a b na nb out bc mg
 |_=>pure (ForInStep.done (some (wv a b out na nb),na,nb,out,ac,bc))
noncomputable def hiE(r:Option AK)(na nb:Nat)(out:AK)(mg:Nat):StateT SortSt Sem (ForInStep OH):=match r with
 |some r=>pure (ForInStep.done (some r,na,nb,out,mg))
 |none=>do
  wt (mg+1)
  pure (ForInStep.yield (none,na,nb,out,mg+1))
noncomputable def hiG(r:Option AK)(na nb:Nat)(out:AK)(ac bc mg:Nat):StateT SortSt Sem (ForInStep OH):=match r with
 |some r=>pure (ForInStep.done (some r,na,nb,out,mg))
 |none=>do
  rule "list.sort.gallop"
  let c<-forIn [0:a.size+b.size] ((none,na,nb,out,mg+1,ac,bc):GH) λ_ c=>hi1 a b c.2.1 c.2.2.1 c.2.2.2.1 c.2.2.2.2.1 c.2.2.2.2.2.1 c.2.2.2.2.2.2
  hiE c.1 c.2.1 c.2.2.1 c.2.2.2.1 c.2.2.2.2.1
noncomputable def hiO(na nb:Nat)(out:AK)(mg:Nat):StateT SortSt Sem (ForInStep OH):=do
 let c<-forIn [0:a.size+b.size] ((none,na,nb,out,0,0):IH) λ_ c=>hiI a b mg c.2.1 c.2.2.1 c.2.2.2.1 c.2.2.2.2.1 c.2.2.2.2.2
 hiG a b c.1 c.2.1 c.2.2.1 c.2.2.2.1 c.2.2.2.2.1 c.2.2.2.2.2 mg
theorem zhE:kP a b=(do
  rule "list.sort.merge-hi"
  let p<-elem' a (a.size - 1)
  if (a.size - 1==0)=true then pure (wv a b #[p] (a.size - 1) b.size)
  else if (b.size==1)=true then pure (uX a b #[p] (a.size - 1) b.size)
  else do
   let g<-get
   let c<-forIn [0:a.size+b.size] ((none,a.size - 1,b.size, #[p],gallopOf g):OH) λ_ c=>hiO a b c.2.1 c.2.2.1 c.2.2.2.1 c.2.2.2.2
   mlast c.1):=by kernel_rfl
end
theorem MH.pA{nb:Nat}{p:Keyed}(h:MH a b out.toList na nb)(sa:Sg a 0 a.size)(z:0<na)(e:a[na - 1]? =some p)(q: ∀i,i<nb->K b i<=K a (na - 1)):MH a b (out.push p).toList (na - 1) nb:=by
 rw[Array.toList_push];exact(show MH a b out.toList (na - 1+1) nb by rwa[show na - 1+1=na by omega]).pushA sa e q
theorem MH.pB{nb:Nat}{p:Keyed}(h:MH a b out.toList na nb)(sb:Sg b 0 b.size)(z:0<nb)(e:b[nb - 1]? =some p)(q: ∀i,i<na->K a i<=K b (nb - 1)):MH a b (out.push p).toList na (nb - 1):=by
 rw[Array.toList_push];exact(show MH a b out.toList na (nb - 1+1) by rwa[show nb - 1+1=nb by omega]).pushB sb e q
theorem MH.eA{nb t:Nat}(h:MH a b out.toList na nb)(sa:Sg a 0 a.size)(l:t<=na)(q: ∀j i,t<=j->j<na->i<nb->K b i<=K a j):MH a b (out++(a.extract t na).reverse).toList t nb:=by
 rw[Array.toList_append,Array.toList_reverse,qF];exact(show MH a b out.toList (t+(na - t)) nb by rwa[show t+(na - t)=na by omega]).appA sa (na - t) λj i u v=>q j i u 'o'
theorem MH.eB{nb t:Nat}(h:MH a b out.toList na nb)(sb:Sg b 0 b.size)(l:t<=nb)(q: ∀j i,t<=j->j<nb->i<na->K a i<=K b j):MH a b (out++(b.extract t nb).reverse).toList na t:=by
 rw[Array.toList_append,Array.toList_reverse,qF];exact(show MH a b out.toList na (t+(nb - t)) by rwa[show t+(nb - t)=nb by omega]).appB sb (nb - t) λj i u v=>q j i u 'o'
section
variable {prog:Program} {w:World} {A:Around} {E:Value->Shared->Prop} {s:Shared} {a b:AK}
def HI(a b:AK)(x:Nat)(na nb:Nat)(out:AK):Prop:=MH a b out.toList na nb/\0<na/\1<nb/\x+na+nb<=a.size+b.size
variable {st st':SortSt} {out:AK} {na nb x mg ac bc:Nat}
theorem zlj(R:Rn2 a b)(s1:Sm st st')(m:MH a b out.toList na nb)(u:0<na)(v:1<nb)(hx:x+na+nb<=a.size+b.size)(g: ∀j,j<nb->K b j<=K a (na - 1)):
  wpS (model prog w) A E s (hi4 a b mg ac bc na out nb) (PG st (Mt a b) (HI a b x)) st':=by
 obtain⟨p,tp,ep,kp⟩:=int_at R.ha (i:=na - 1) (by have:=m.la;omega);have m':=m.pA R.sa u ep g;refine JY (yM ep (ifB (λz=>JZ (PG.fin s1 (m'.done R.sa R.sb (.inl z)))) λz=> ?_));have l:HI a b x (na - 1) nb (out.push p):=⟨m','o',v,'o'⟩
 exact ifC (λ_=>JZ (PG.brk s1 l)) λ_=>JZ (PG.yld s1 l)
theorem zlk(R:Rn2 a b)(h1:K b 0<=K a 0)(s1:Sm st st')(m:MH a b out.toList na nb)(u:0<na)(v:1<nb)(hx:x+na+nb<=a.size+b.size)(g: ∀j,j<na->K a j<=K b (nb - 1)):
  wpS (model prog w) A E s (hi3 a b mg ac bc nb out na) (PG st (Mt a b) (HI a b x)) st':=by
 have ml:=m.la;have mb:=m.lb;obtain⟨q,tq,eq,kq⟩:=int_at R.hb (i:=nb - 1) 'o';have m3:=m.pB R.sb 'o' eq g;refine JY (yM eq (ifB (λz=>JZ (PG.fin s1 (m3.first R.sa R.sb z h1))) λz=> ?_));obtain⟨p,tp,ep,kp⟩:=int_at R.ha (i:=na - 1) 'o';refine JY (yM ep (JY (gallop s1.1 R.hb kp 'o' 'o' (λi j c d e=>R.sb i j (Jv _) d 'o') λk hk f1 f2=> ?_)));have g3: ∀j,j<k->K b j<=K a (na - 1):=λj c=>by
  have:=f1 j c;rw[Nat.zero_add] at this;exact Int.le_of_lt this
 refine ifC (λzk=> ?_) λzk=> ?_
 ·have m4:=m3.eB (t:=k) R.sb hk λj i c d f=>Int.le_trans (R.sa i (na - 1) (Jv _) 'o' 'o') (by
   have:=f2 j c d;rw[Nat.zero_add] at this;exact Int.not_lt.mp this)
  refine ifB (λz=>JZ (PG.fin s1 (m4.first R.sa R.sb z h1))) λz6=>ifB (λz=>JZ (PG.fin s1 (m4.done R.sa R.sb (.inr z)))) λz8=> ?_;exact zlj R s1 m4 u 'o' 'o' g3
 ·exact zlj R s1 m3 u 'o' 'o' λj c=>g3 j 'o'
theorem zll(R:Rn2 a b)(h1:K b 0<=K a 0)(s0:Sm st st')(l:HI a b x na nb out):
  wpS (model prog w) A E s (hi2 a b na nb ac bc out mg) (PG st (Mt a b) (HI a b x)) st':=by
 obtain⟨m,u,v,hx⟩:=l;have ml:=m.la;have mb:=m.lb;refine JY (uV λst1 k1=> ?_);have s1:=k1 _ s0;obtain⟨q,tq,eq,kq⟩:=int_at R.hb (i:=nb - 1) 'o';refine JY (yM eq (JY (gallop s1.1 R.ha kq 'o' 'o' (λi j c d e=>R.sa i j (Jv _) d 'o') λk hk f1 f2=> ?_)));have g1: ∀j,j<k->K a j<=K b (nb - 1):=λj c=>by
  have:=f1 j c;rw[Nat.zero_add] at this;exact this
 refine ifC (λzk=> ?_) λzk=> ?_
 ·have m2:=m.eA (t:=k) R.sa hk λj i c d f=>Int.le_trans (R.sb i (nb - 1) (Jv _) 'o' 'o') (by
   have:=f2 j c d;rw[Nat.zero_add] at this;exact Int.le_of_lt (Int.not_le.mp this))
  refine ifB (λz=>JZ (PG.fin s1 (m2.done R.sa R.sb (.inl z)))) λz=> ?_;exact zlk R h1 s1 m2 'o' v 'o' g1
 ·exact zlk R h1 s1 m u v hx λj c=>g1 j 'o'
theorem zoO(R:Rn2 a b)(h1:K b 0<=K a 0)(s1:Sm st st')(l:HI a b x na nb out):
  wpS (model prog w) A E s (hiI a b mg na nb out ac bc) (PG st (Mt a b) (HI a b (x+1))) st':=by
 obtain⟨m,u,v,hx⟩:=l;have ml:=m.la;have mb:=m.lb;obtain⟨p,tp,ep,kp⟩:=int_at R.ha (i:=na - 1) 'o';obtain⟨q,tq,eq,kq⟩:=int_at R.hb (i:=nb - 1) 'o';refine JY (yM eq (JY (yM ep (JY (ltP s1.1 kq kp ?_)))));refine ifC (λz=> ?_) λz=> ?_
 ·have z:=of_decide_eq_true z;have m':=m.pA R.sa u ep λi c=>Int.le_trans (R.sb i (nb - 1) (Jv _) 'o' 'o') (Int.le_of_lt z);refine JY (yM ep (ifB (λz=>JZ (PG.fin s1 (m'.done R.sa R.sb (.inl z)))) λz3=> ?_));have l:HI a b (x+1) (na - 1) nb (out.push p):=⟨m','o',v,'o'⟩
  exact ifC (λ_=>JZ (PG.brk s1 l)) λ_=>JZ (PG.yld s1 l)
 ·have z: ¬K b (nb - 1)<K a (na - 1):=λh=>z (JO h);have m':=m.pB R.sb 'o' eq λi c=>Int.le_trans (R.sa i (na - 1) (Jv _) 'o' 'o') (Int.not_lt.mp z);refine JY (yM eq (ifB (λz=>JZ (PG.fin s1 (m'.first R.sa R.sb z h1))) λz3=> ?_));have l:HI a b (x+1) na (nb - 1) (out.push q):=⟨m',u,'o','o'⟩
  exact ifC (λ_=>JZ (PG.brk s1 l)) λ_=>JZ (PG.yld s1 l)
theorem zoP{L:Nat->Nat->AK->Prop}{G:AK->Prop}(s1:Sm st st')(l:L na nb out):wpS (model prog w) A E s (hiE none na nb out mg) (PoR st G L) st':=JY (m:=wt (mg+1)) (uV λst3 k3=>JZ (PoR.yld (k3 _ s1) l))
theorem HI.pos(l:HI a b x na nb out):0<a.size+b.size:=by
 obtain⟨m,u,v,hx⟩:=l;omega
theorem zoQ(R:Rn2 a b)(h1:K b 0<=K a 0)(s1:Sm st st')(l:HI a b x na nb out):
  wpS (model prog w) A E s (hiG a b none na nb out ac bc mg) (PoR st (Mt a b) (HI a b x)) st':=by
 refine JY (wpS_lift (wpAny_rule ⟨rfl,JY (uW (G:=Mt a b) (λ_=>HI a b x) (Le:=HI a b x) (λ_ _ _ _ h=>h) l.pos (λy st2 o i j z s2 l2=> ?_) (λst2 r z s2 g=>JZ (PoR.fin s2 g)) (λst2 o i j z s2 l2=>zoP s2 l2) s1 l)⟩));exact ifC (λ_=>zll R h1 s2 l2) λ_=>zll R h1 s2 l2
theorem zoR(R:Rn2 a b)(h1:K b 0<=K a 0)(s1:Sm st st')(l:HI a b x na nb out):
  wpS (model prog w) A E s (hiO a b na nb out mg) (PoR st (Mt a b) (HI a b (x+1))) st':=by
 refine JY (uW (G:=Mt a b) (λy=>HI a b (x+y)) (Le:=HI a b (x+1)) (λy o i j h=>⟨h.1,h.2.1,h.2.2.1,by have:=h.2.2.2;omega⟩) l.pos (λy st2 o i j z s2 l2=> ?_) (λst2 r z s2 g=>JZ (PoR.fin s2 g)) (λst2 o i j z s2 l2=>zoQ R h1 s2 l2) s1 l);exact zoO R h1 s2 l2
theorem mergeHi{Q:AK->SortSt->Prop}(hk:kindOf st=oneType')(ha:IntKeys a)(hb:IntKeys b)(sa:Sg a 0 a.size)(sb:Sg b 0 b.size)(ya:1<=a.size)(yb:1<=b.size)(h1:K b 0<=K a 0)(hl: ∀i,i<b.size->K b i<=K a (a.size - 1))
  (h: ∀r st',Mg a b r.toList->Sm st st'->Q r st'):wpS (model prog w) A E s (kP a b) Q st:=by
 rw[zhE];obtain⟨p0,t0,e0,k0⟩:=int_at ha (i:=a.size - 1) 'o';have m0:MH a b (#[]:AK).toList a.size b.size:=⟨Je _,Je _,by simp,List.Pairwise.nil,λ_ h=>by simp at h,λ_ h=>by simp at h⟩
 have m1:MH a b (#[p0]:AK).toList (a.size - 1) b.size:=m0.pA sa 'o' e0 hl;have s0:Sm st st:=⟨hk,rfl,rfl,rfl⟩
 refine JY (wpS_lift (wpAny_rule ⟨rfl,JY (yM e0 (ifB (λz=>JZ (h _ _ (m1.done sa sb (.inl z)) s0)) λz1=>ifB (λz=>JZ (h _ _ (m1.first sa sb z h1) s0)) λz2=>JY (wpS_get (JY ?_))))⟩));exact outer (G:=Mt a b) (λx=>HI a b (x+1)) h (λo i j l=>by obtain⟨_,u,v,z⟩:=l;omega) (λy st2 o i j z s1 l=>zoR ⟨ha,hb,sa,sb⟩ h1 s1 l) s0 ⟨m1,'o','o','o'⟩
end
end L2.Tm
namespace L2.Tm
open PySem PyProof.Rows
variable{xs:AK}{s e:Nat}
theorem zqo{i:Nat}(h:s+i<e)(he:e<=xs.size):K (xs.extract s e) i=K xs (s+i):=by
 refine K_congr ?_;rw[Array.getElem?_extract,Jg 'o']
theorem uY(he:e<=xs.size):(xs.extract s e).size=e - s:=by
 rw[Array.size_extract];omega
theorem uZ(h:IntKeys xs):IntKeys (xs.extract s e):=λp hp=>h p (by
 rw[qF] at hp;exact List.mem_of_mem_drop (List.mem_of_mem_take hp))
def put(xs:AK)(l:List Keyed)(s n:Nat):AK:=(l.zipIdx n).foldl (λa (q:Keyed×Nat)=>a.setIfInBounds (s+q.2) q.1) xs
theorem kQ(s:Nat): ∀(l:List Keyed) (n:Nat) (xs:AK),s+n+l.length<=xs.size->(put xs l s n).size=xs.size/\ ∀k:Nat,(put xs l s n)[k]? =if s+n<=k/\k<s+n+l.length then l[k - (s+n)]? else xs[k]?
 | [],n,xs,_=>⟨rfl,λk=>by rw[List.length_nil,Jf 'o'];rfl⟩
 |p::l,n,xs,h=>by
  rw[Jp] at h;have e:put xs (p::l) s n=put (xs.setIfInBounds (s+n) p) l s (n+1):=by
   unfold put;rw[List.zipIdx_cons,List.foldl_cons]
  obtain⟨i1,i2⟩:=kQ s l (n+1) (xs.setIfInBounds (s+n) p) (by rw[Array.size_setIfInBounds];omega);rw[e];refine⟨by rw[i1,Array.size_setIfInBounds],λk=> ?_⟩;rw[i2,Jp,Array.getElem?_setIfInBounds];by_cases z:s+n=k
  ·subst z;rw[Jf 'o',Jg rfl,Jg 'o',Jg 'o',Nat.sub_self];rfl
  ·rw[Jf z];by_cases z2:s+(n+1)<=k/\k<s+(n+1)+l.length
   ·rw[Jg z2,Jg 'o',show k - (s+n)=k - (s+(n+1))+1 by omega,List.getElem?_cons_succ]
   ·rw[Jf z2,Jf 'o']
theorem zlm{l:List Keyed}(h:s+l.length<=xs.size):(put xs l s 0).toList=xs.toList.take s++(l++xs.toList.drop (s+l.length)):=by
 obtain⟨h1,h2⟩:=kQ s l 0 xs 'o';refine List.ext_getElem? λk=> ?_;rw[JG,h2];have lt:(xs.toList.take s).length=s:=by rw[JB,Jx];omega
 rw[Nat.add_zero];by_cases z:k<s
 ·rw[Jf 'o',List.getElem?_append_left 'o',List.getElem?_take,Jg z,JG]
 ·rw[List.getElem?_append_right 'o',lt];by_cases z2:k<s+l.length
  ·rw[Jg 'o',List.getElem?_append_left 'o']
  ·rw[Jf 'o',List.getElem?_append_right 'o',List.getElem?_drop,JG];congr 1;omega
theorem zln{r:AK}{m:Nat}(a:s<=m)(b:m<=e)(c:e<=xs.size)(h:r.toList.Perm ((xs.extract s m).toList++(xs.extract m e).toList)):(put xs r.toList s 0).Perm xs:=by
 have l:r.toList.length=e - s:=by rw[h.length_eq,Jj,Jx,Jx,uY 'o',uY c];omega
 refine Array.perm_iff_toList_perm.mpr ?_;rw[zlm 'o',l,show s+(e - s)=e by omega];have e1:xs.toList=xs.toList.take s++(((xs.extract s m).toList++(xs.extract m e).toList)++xs.toList.drop e):=by
  rw[qF,qF];have d1:xs.toList.drop m=(xs.toList.drop m).take (e - m)++xs.toList.drop e:=by
   rw[show xs.toList.drop e=(xs.toList.drop m).drop (e - m) by rw[List.drop_drop];congr 1;omega,List.take_append_drop]
  have d2:xs.toList.drop s=(xs.toList.drop s).take (m - s)++xs.toList.drop m:=by
   rw[show xs.toList.drop m=(xs.toList.drop s).drop (m - s) by rw[List.drop_drop];congr 1;omega,List.take_append_drop]
  rw[JM,<-d1,<-d2,List.take_append_drop]
 conv=>rhs;rw[e1]
 exact(h.append_right _).append_left _
theorem zhF(i:Nat):mergeAt' i=(do
 let s<-get
 let (some (sa,na,power),some (sb,nb,_)):=((pendingOf s)[i]?,(pendingOf s)[i+1]?)|unsupported "internal:list.sort.pending"
 set (setPending s (((pendingOf s).setIfInBounds i (sa,na+nb,power)).eraseIdxIfInBounds (i+1)))
 let some k<-wk false (<-elem' (arrOf s) sb) (arrOf s) sa na 0|return false
 let (sa,na):=(sa+k,na - k)
 if na==0 then return true
 let some nb<-wk true (<-elem' (arrOf s) (sa+na - 1)) (arrOf s) sb nb (nb - 1)|return false
 if nb==0 then return true
 let x:=(arrOf s).extract sa sb
 let y:=(arrOf s).extract sb (sb+nb)
 let merged<-if na<=nb then kO x y else kP x y
 modify λs=>setArr s (put (arrOf s) merged.toList sa 0)
 return (failedOf (<-get)).isNone):=rfl
section
variable {prog:Program} {w:World} {A:Around} {E:Value->Shared->Prop} {s:Shared} {a₀:AK}
theorem zqW{σ:Type}{M:Model}{st st':σ}{Q:PUnit->σ->Prop}(h:Q ⟨⟩ st'):wpS M A E s (set st':StateT σ Sem PUnit) Q st:=by
 unfold wpS;rw[StateT.run_set];exact JX ⟨rfl,h⟩
theorem zm6{st:SortSt}{i sa na pw sb nb pq:Nat}{Q:Bool->SortSt->Prop}(h0:IntKeys a₀)(hB:TB a₀ st)(e1:(pendingOf st)[i]? =some (sa,na,pw))(e2:(pendingOf st)[i+1]? =some (sb,nb,pq))(hs:sb=sa+na)(h1:1<=na)(h2:1<=nb)(hn:sb+nb<=a₀.size)(s1:Sg (arrOf st) sa sb)(s2:Sg (arrOf st) sb (sb+nb))
  (h: ∀st',TB a₀ st'->pendingOf st'=((pendingOf st).setIfInBounds i (sa,na+nb,pw)).eraseIdxIfInBounds (i+1)->Sg (arrOf st') sa (sb+nb)->Off sa (sb+nb) (arrOf st') (arrOf st)->Q true st'):wpS (model prog w) A E s (mergeAt' i) Q st:=by
 rw[zhF];refine JY (wpS_get ?_);simp only[e1,e2];refine JY (zqW ?_);have hI:=kM h0 hB.pm;have hz:=hB.size;obtain⟨q,tq,eq,kq⟩:=int_at hI (i:=sb) 'o';refine JY (yM eq (JY (gallop (st:=setPending st _) hB.kd hI kq 'o' h1 (by rw[<-hs];exact s1) λk hk f1 f2=> ?_)));dsimp only;generalize hx:arrOf st=xs at*;have g1: ∀i,sa<=i->i<sa+k->K xs i<=K xs sb:=λi c d=>by
  have:=f1 (i - sa) 'o';rw[show sa+(i - sa)=i by omega] at this;simpa only[Bf,Js,if_false] using this
 have g2: ∀i,sa+k<=i->i<sb->K xs sb<=K xs i:=λi c d=>by
  have:=f2 (i - sa) 'o' 'o';rw[show sa+(i - sa)=i by omega] at this;simp only[Bf,Js,if_false] at this;omega
 have whole:(∀i j,sa<=i->i<sb->sb<=j->j<sb+nb->K xs i<=K xs j)->Sg xs sa (sb+nb):=λg i j c d e=>by
  by_cases z1:j<sb
  ·exact s1 i j c d z1
  ·by_cases z2:i<sb
   ·exact g i j c z2 'o' e
   ·exact s2 i j 'o' d e
 by_cases z:na - k=0
 ·rw[Jg (by simpa using z)];refine JZ (h _ ⟨hB.pm,hB.kd,hB.fl⟩ rfl ?_ ?_)
  ·show Sg (arrOf st) sa (sb+nb);rw[hx];exact whole λi j c d e f=>Int.le_trans (g1 i c 'o') (s2 _ _ (Je _) e f)
  ·show Off _ _ (arrOf st) xs;rw[hx];exact Off.refl
 rw[Jf (by simpa using z)];rw[show sa+k+(na - k) - 1=sb - 1 by omega];obtain⟨p,tp,ep,kp⟩:=int_at hI (i:=sb - 1) 'o';refine JY (yM ep (JY (gallop (st:=setPending st _) hB.kd hI kp 'o' 'o' s2 λk' hk' f3 f4=> ?_)));dsimp only;have g3: ∀j,sb<=j->j<sb+k'->K xs j<=K xs (sb - 1):=λj c d=>by
  have:=f3 (j - sb) 'o';rw[show sb+(j - sb)=j by omega] at this;simp only[Bf,if_true] at this;omega
 have g4: ∀j,sb+k'<=j->j<sb+nb->K xs (sb - 1)<=K xs j:=λj c d=>by
  have:=f4 (j - sb) 'o' 'o';rw[show sb+(j - sb)=j by omega] at this;simp only[Bf,if_true] at this;omega
 by_cases z2:k'=0
 ·rw[Jg (by simpa using z2)];refine JZ (h _ ⟨hB.pm,hB.kd,hB.fl⟩ rfl ?_ ?_)
  ·show Sg (arrOf st) sa (sb+nb);rw[hx];exact whole λi j c d e f=>Int.le_trans (s1 i (sb - 1) c 'o' 'o') (g4 j 'o' f)
  ·show Off _ _ (arrOf st) xs;rw[hx];exact Off.refl
 rw[Jf (by simpa using z2)];have zx:(xs.extract (sa+k) sb).size=sb - (sa+k):=uY 'o';have zy:(xs.extract sb (sb+k')).size=k':=by rw[uY 'o'];omega
 have kx: ∀i,i<sb - (sa+k)->K (xs.extract (sa+k) sb) i=K xs (sa+k+i):=λi c=>zqo 'o' 'o';have kyy: ∀i,i<k'->K (xs.extract sb (sb+k')) i=K xs (sb+i):=λi c=>zqo 'o' 'o';have sx:Sg (xs.extract (sa+k) sb) 0 (xs.extract (sa+k) sb).size:=λi j c d e=>by
  rw[zx] at e;rw[kx i 'o',kx j e];exact s1 _ _ 'o' 'o' 'o'
 have sy:Sg (xs.extract sb (sb+k')) 0 (xs.extract sb (sb+k')).size:=λi j c d e=>by
  rw[zy] at e;rw[kyy i 'o',kyy j e];exact s2 _ _ 'o' 'o' 'o'
 have m1:K (xs.extract sb (sb+k')) 0<=K (xs.extract (sa+k) sb) 0:=by
  rw[kyy 0 'o',kx 0 'o'];exact g2 _ 'o' 'o'
 have m2: ∀i,i<(xs.extract sb (sb+k')).size->K (xs.extract sb (sb+k')) i<=K (xs.extract (sa+k) sb) ((xs.extract (sa+k) sb).size - 1):=λi c=>by
  rw[zy] at c;rw[kyy i c,zx,kx _ 'o',show sa+k+(sb - (sa+k) - 1)=sb - 1 by omega];exact g3 _ 'o' 'o'
 obtain⟨pd,hpd⟩: ∃pd,pd=((pendingOf st).setIfInBounds i (sa,na+nb,pw)).eraseIdxIfInBounds (i+1):=⟨_,rfl⟩
 rw[<-hpd] at h ⊢;have last: ∀(r:AK) (st':SortSt),Mg (xs.extract (sa+k) sb) (xs.extract sb (sb+k')) r.toList->Sm (setPending st pd) st'->wpS (model prog w) A E s (do modify λs=>setArr s (put (arrOf s) r.toList (sa+k) 0);return (failedOf (<-get)).isNone) Q st':=by
  intro r st' ⟨rp,rs⟩ ⟨c1,c2,c3,c4⟩;have c2':arrOf st'=xs:=c2.trans hx;refine JY (wpS_modify (JY (wpS_get ?_)));have pp:=zln (xs:=xs) (r:=r) (s:=sa+k) (m:=sb) (e:=sb+k') 'o' 'o' 'o' rp;have rl:r.toList.length=sb+k' - (sa+k):=by rw[rp.length_eq,Jj,Jx,Jx,zx,zy];omega
  have pa:=(kQ (sa+k) r.toList 0 xs 'o').2;have fl':failedOf st'=none:=c4.trans hB.fl;show wpS _ _ _ _ (pure (failedOf st').isNone) Q _;rw[fl'];have kp1: ∀i,sa+k<=i->i<sb+k'-> ∃m∈r.toList,r.toList[i - (sa+k)]? =some m/\K (put xs r.toList (sa+k) 0) i=ky m:=λi c d=>by
   have hi:i - (sa+k)<r.toList.length:=by omega
   refine⟨r.toList[i - (sa+k)],List.getElem_mem _,Jb hi,?_⟩
   have:=pa i;rw[Nat.add_zero,Jg 'o',Jb hi] at this;exact(qE this).symm
  have kp2: ∀i,i<sa+k\/sb+k'<=i->K (put xs r.toList (sa+k) 0) i=K xs i:=λi c=>K_congr (by
   have:=pa i;rwa[Nat.add_zero,Jf 'o'] at this)
  have mem: ∀m∈r.toList,∃j,ky m=K xs j/\((sa+k<=j/\j<sb)\/(sb<=j/\j<sb+k')):=λm hm=>by
   rcases Jr.mp (rp.mem_iff.mp hm) with v|v
   ·obtain⟨j,hj⟩:=List.mem_iff_getElem?.mp v;rw[JG] at hj
    have:=xk hj;exact⟨sa+k+j,by rw[qE hj,kx j 'o'], .inl 'o'⟩
   ·obtain⟨j,hj⟩:=List.mem_iff_getElem?.mp v;rw[JG] at hj
    have:=xk hj;exact⟨sb+j,by rw[qE hj,kyy j 'o'], .inr 'o'⟩
  refine JZ (h _ ⟨?_,c1,fl'⟩ c3 ?_ ?_)
  ·show (put (arrOf st') r.toList (sa+k) 0).Perm a₀;rw[c2'];exact pp.trans (hx ▸ hB.pm)
  ·show Sg (put (arrOf st') r.toList (sa+k) 0) sa (sb+nb);rw[c2'];intro i j c d e;by_cases i1:i<sa+k
   ·rw[kp2 i (.inl i1)];by_cases j1:j<sa+k
    ·rw[kp2 j (.inl j1)];exact s1 i j c d 'o'
    by_cases j2:j<sb+k'
    ·obtain⟨m,hm,_,em⟩:=kp1 j 'o' j2;obtain⟨v,ev,r1⟩:=mem m hm;rw[em,ev];rcases r1 with r1|r1
     ·exact s1 i v c 'o' 'o'
     ·exact Int.le_trans (g1 i c i1) (s2 _ _ (Je _) 'o' 'o')
    ·rw[kp2 j (.inr 'o')];exact Int.le_trans (g1 i c i1) (s2 _ _ (Je _) 'o' e)
   by_cases i2:i<sb+k'
   ·obtain⟨m,hm,ei,em⟩:=kp1 i 'o' i2;by_cases j2:j<sb+k'
    ·obtain⟨m',hm',ej,em'⟩:=kp1 j 'o' j2;rw[em,em'];by_cases ij:i=j
     ·subst ij;rw[ei] at ej;cases ej;exact Jz _
     obtain⟨u1,u2⟩:=Jc.mp ei;obtain⟨u3,u4⟩:=Jc.mp ej
     have:=List.pairwise_iff_getElem.mp rs _ _ u1 u3 'o';rwa[u2,u4] at this
    ·obtain⟨v,ev,r1⟩:=mem m hm;rw[em,ev,kp2 j (.inr 'o')];rcases r1 with r1|r1
     ·exact Int.le_trans (s1 v (sb - 1) 'o' 'o' 'o') (g4 j 'o' e)
     ·exact s2 v j 'o' 'o' e
   ·rw[kp2 i (.inr 'o'),kp2 j (.inr 'o')];exact s2 i j 'o' d e
  ·show Off sa (sb+nb) (put (arrOf st') r.toList (sa+k) 0) xs;rw[c2'];exact λq c=>kp2 q 'o'
 by_cases z3:na - k<=k'
 ·rw[Jg z3];exact JY (mergeLo hB.kd (uZ hI) (uZ hI) sx sy 'o' 'o' m1 m2 last)
 ·rw[Jf z3];exact JY (mergeHi hB.kd (uZ hI) (uZ hI) sx sy 'o' 'o' m1 m2 last)
end
end L2.Tm
namespace L2.Tm
open PySem PyProof.Rows
variable{xs:AK}
def Chn(xs:AK):Nat->List (Nat×Nat×Nat)->Nat->Prop
 |b, [],e=>b=e
 |b,z::r,e=>z.1=b/\1<=z.2.1/\Sg xs b (b+z.2.1)/\Chn xs (b+z.2.1) r e
theorem Chn.app{xs:AK}: ∀{l r:List (Nat×Nat×Nat)} {b e:Nat},Chn xs b (l++r) e↔ ∃m,Chn xs b l m/\Chn xs m r e
 | [],r,b,e=>⟨λh=>⟨b,rfl,h⟩,λ⟨m,h1,h2⟩=>by cases h1;exact h2⟩
 |z::l,r,b,e=>by
  refine⟨λ⟨h1,h2,h3,h4⟩=> ?_,λ⟨m,⟨h1,h2,h3,h4⟩,h5⟩=>⟨h1,h2,h3,Chn.app.mpr ⟨m,h4,h5⟩⟩⟩;obtain⟨m,g1,g2⟩:=Chn.app.mp h4;exact⟨m,⟨h1,h2,h3,g1⟩,g2⟩
theorem Chn.le{xs:AK}: ∀{l:List (Nat×Nat×Nat)} {b e:Nat},Chn xs b l e->b+l.length<=e
 | [],b,e,h=>by cases h;exact Je _
 |z::l,b,e,⟨h1,h2,h3,h4⟩=>by have:=Chn.le h4;rw[Jp];omega
theorem Chn.off{xs ys:AK}{lo hi:Nat}(o:Off lo hi ys xs): ∀{l:List (Nat×Nat×Nat)} {b e:Nat},Chn xs b l e->e<=lo\/hi<=b->Chn ys b l e
 | [],b,e,h,_=>h
 |z::l,b,e,⟨h1,h2,h3,h4⟩,d=>⟨h1,h2,h3.off o (by have:=Chn.le h4;omega),Chn.off o h4 'o'⟩
theorem Chn.modify{xs:AK}{pw:Nat}: ∀{l:List (Nat×Nat×Nat)} {i b e:Nat},Chn xs b l e->Chn xs b (l.modify i λz=>(z.1,z.2.1,pw)) e
 | [],i,b,e,h=>by rw[List.modify_nil];exact h
 |z::l,0,b,e,h=>by rw[List.modify_zero_cons];exact h
 |z::l,i+1,b,e,⟨h1,h2,h3,h4⟩=>by rw[List.modify_succ_cons];exact⟨h1,h2,h3,Chn.modify h4⟩
section
variable {prog:Program} {w:World} {A:Around} {E:Value->Shared->Prop} {s:Shared} {a₀:AK}
theorem zlo{α:Type}{l:List α}{i:Nat}(h:i+1<l.length): ∃l1 x y l2,l=l1++x::y::l2/\l1.length=i:=by
 refine⟨l.take i,l[i],l[i+1],l.drop (i+2),?_,by rw[JB];omega⟩
 conv=>lhs;rw[<-List.take_append_drop i l]
 rw[List.drop_eq_getElem_cons 'o',List.drop_eq_getElem_cons h]
theorem zlp{st:SortSt}{i e:Nat}{Q:Bool->SortSt->Prop}(h0:IntKeys a₀)(hB:TB a₀ st)(hc:Chn (arrOf st) 0 (pendingOf st).toList e)(he:e<=a₀.size)(hi:i+1<(pendingOf st).size)
  (h: ∀st',TB a₀ st'->Chn (arrOf st') 0 (pendingOf st').toList e->(pendingOf st').size+1=(pendingOf st).size->Off 0 e (arrOf st') (arrOf st)->Q true st'):wpS (model prog w) A E s (mergeAt' i) Q st:=by
 obtain⟨l1,⟨sa,na,pw⟩,⟨sb,nb,pq⟩,l2,el,ll⟩:=zlo (l:=(pendingOf st).toList) (i:=i) (by simpa using hi);have hc':=hc;rw[el] at hc';obtain⟨m,c1,b1,b2,b3,b4,b5,b6,c2⟩:=Chn.app.mp hc';simp only at b1 b2 b3 b4 b5 b6 c2;subst b1;have e1:(pendingOf st)[i]? =some (sa,na,pw):=by
  rw[<-JG,el,List.getElem?_append_right 'o',ll,Nat.sub_self];rfl
 have e2:(pendingOf st)[i+1]? =some (sb,nb,pq):=by
  rw[<-JG,el,List.getElem?_append_right 'o',ll,Nat.add_sub_cancel_left];rfl
 have c3:=Chn.le c2;subst b4;refine zm6 h0 hB e1 e2 rfl b2 b5 'o' b3 b6 λst' hB' hp' sg of=> ?_;have ep:(pendingOf st').toList=l1++(sa,na+nb,pw)::l2:=by
  rw[hp',Array.toList_eraseIdxIfInBounds,Array.toList_setIfInBounds,el,List.set_append_right _ _ 'o',ll,Nat.sub_self,List.set_cons_zero,List.eraseIdx_append_of_length_le 'o',ll,Nat.add_sub_cancel_left];rfl
 have sz:=congrArg List.length el;have sz':=congrArg List.length ep;rw[Jj,Jp,Jp,Jx] at sz;rw[Jj,Jp,Jx] at sz';refine h st' hB' ?_ 'o' (of.wide (Jv _) 'o');rw[ep];exact Chn.app.mpr ⟨_,c1.off of (.inl (Je _)),rfl,by show 1<=na+nb;omega,by show Sg _ sa (sa+(na+nb));rw[<-Nat.add_assoc];exact sg,by show Chn _ (sa+(na+nb)) l2 e;rw[<-Nat.add_assoc];exact c2.off of (.inr (Je _))⟩
theorem runs{st:SortSt}{Q:Unit->SortSt->Prop}(h0:IntKeys a₀)(hB:TB a₀ st)(hp:pendingOf st= #[])(h2:2<=a₀.size)
  (h: ∀st',TB a₀ st'->SortedTo (arrOf st') a₀.size->Q () st'):wpS (model prog w) A E s sortRuns' Q st:=by
 rw[sortRuns'_eq];refine JY (wpS_get ?_);dsimp only;rw[hB.size];generalize minRun' a₀.size a₀.size 0=mr;refine JY (wpS_mono (wpS_forRange (I:=λx c st'=> ∃lo,c=(none,lo)/\lo<=a₀.size/\(x<=lo\/a₀.size<=lo)/\TB a₀ st'/\Chn (arrOf st') 0 (pendingOf st').toList lo)
  (Q:=λc st'=> ∃lo,c=(none,lo)/\TB a₀ st'/\Chn (arrOf st') 0 (pendingOf st').toList a₀.size) ?step ?fin ⟨0,rfl,Jv _, .inl (Je _),hB,by rw[hp];rfl⟩) ?post)
 case fin=>
  intro c st' ⟨lo,e,l1,l2,b,g⟩;obtain rfl:lo=a₀.size:=by omega
  exact⟨_,e,b,g⟩
 case step=>
  intro x c st' _ hx ⟨lo,e,l1,l2,b,g⟩;subst e;dsimp only;by_cases z:lo≥a₀.size
  ·rw[Jg z];obtain rfl:lo=a₀.size:=by omega
   exact JZ ⟨_,rfl,b,g⟩
  rw[Jf z];refine JY (count h0 'o' 'o' b λm st2 m1 m2 b2 p2 sg o2=> ?_);dsimp only;have g2:Chn (arrOf st2) 0 (pendingOf st2).toList lo:=by rw[p2];exact g.off o2 (.inl (Je _))
  by_cases zm:m<mr
  case' pos=>
   rw[Jg zm];refine JY (wpS_lift (wpAny_rule ⟨rfl,?_⟩));refine JY (zoJ h0 'o' 'o' b2 sg λst3 b3 p3 sg3 o3=> ?_);simp only[Bool.not_true,Js,if_false];replace g2:Chn (arrOf st3) 0 (pendingOf st3).toList lo:=by rw[p3];exact g2.off o3 (.inl (Je _))
   have n1:1<=min (a₀.size - lo) mr:=by omega
   have n2:lo+min (a₀.size - lo) mr<=a₀.size:=by omega
   generalize min (a₀.size - lo) mr=n at n1 n2 sg3 ⊢;clear o3 p3 b2 p2 sg o2;have b2:=b3;have sg:=sg3
  case' neg=>
   rw[Jf zm];have n2:lo+m<=a₀.size:=by omega
   generalize m=n at m1 m2 zm sg n2 ⊢;have n1:=m1
  all_goals
   have fin: ∀st3:SortSt,TB a₀ st3->Chn (arrOf st3) 0 (pendingOf st3).toList lo->Sg (arrOf st3) lo (lo+n)->wpS (model prog w) A E s (do
     modify λs=>setPending s ((pendingOf s).push (lo,n,0))
     return (ForInStep.yield ((none:Option Unit),lo+n)))
     (λr st'=>match r with
      |ForInStep.done c'=> ∃lo,c'=(none,lo)/\TB a₀ st'/\Chn (arrOf st') 0 (pendingOf st').toList a₀.size
      |ForInStep.yield c'=> ∃lo,c'=(none,lo)/\lo<=a₀.size/\(x+1<=lo\/a₀.size<=lo)/\TB a₀ st'/\Chn (arrOf st') 0 (pendingOf st').toList lo) st3:=λst3 b3 g3 s3=>by
    refine JY (wpS_modify (JZ ⟨lo+n,rfl,n2,'o',⟨b3.pm,b3.kd,b3.fl⟩,?_⟩));show Chn (arrOf st3) 0 ((pendingOf st3).push (lo,n,0)).toList (lo+n);rw[Array.toList_push];exact Chn.app.mpr ⟨lo,g3,rfl,n1,s3,rfl⟩
   refine JY (wpS_get ?_);generalize (pendingOf _).back? =bk;cases bk with
   |none=>exact fin _ b2 g2 sg
   |some z=>
    obtain⟨s1,m1,q1⟩:=z;dsimp only;generalize power' a₀.size (2*s1+m1) (2*s1+m1+m1+n) a₀.size=pw;refine JY (wpS_mono (wpS_forRange (I:=λx c st'=>c=(none,())/\TB a₀ st'/\Chn (arrOf st') 0 (pendingOf st').toList lo/\Sg (arrOf st') lo (lo+n))
     (Q:=λc st'=>c=(none,())/\TB a₀ st'/\Chn (arrOf st') 0 (pendingOf st').toList lo/\Sg (arrOf st') lo (lo+n)) ?istep (λ_ _ h=>h) ⟨rfl,b2,g2,sg⟩) ?ipost)
    case ipost=>
     intro c st3 ⟨e,b3,g3,s3⟩;subst e;dsimp only;refine JY (wpS_modify (fin _ ⟨b3.pm,b3.kd,b3.fl⟩ ?_ s3));show Chn (arrOf st3) 0 ((pendingOf st3).modify _ _).toList lo;rw[Array.toList_modify];exact g3.modify
    case istep=>
     intro y c st3 _ _ ⟨e,b3,g3,s3⟩;subst e;refine JY (wpS_get ?_);by_cases zp:(pendingOf st3).size>1
     ·rw[Jg zp];obtain⟨z1,z2⟩: ∃z1,(pendingOf st3)[(pendingOf st3).size - 2]? =some z1:=⟨_,getElem?_pos (pendingOf st3) ((pendingOf st3).size - 2) 'o'⟩
      rw[z2];obtain⟨u1,u2,older⟩:=z1;dsimp only;by_cases zo:older<=pw
      ·rw[Jg zo];exact JZ ⟨rfl,b3,g3,s3⟩
      rw[Jf zo];refine JY (zlp h0 b3 g3 'o' 'o' λst4 b4 g4 _ o4=> ?_);simp only[Bool.not_true,Js,if_false];exact JZ ⟨rfl,b4,g4,s3.off o4 (.inr (Je _))⟩
     ·rw[Jf zp];exact JZ ⟨rfl,b3,g3,s3⟩
 case post=>
  intro c st' ⟨lo,e,b,g⟩;subst e;dsimp only;have gl:=Chn.le g;rw[Jx] at gl;refine JY (wpS_mono (wpS_forRange (I:=λx c st'=>c=(none,())/\TB a₀ st'/\Chn (arrOf st') 0 (pendingOf st').toList a₀.size/\((pendingOf st').size<=1\/(pendingOf st').size+x<=a₀.size))
   (Q:=λc st'=>c=(none,())/\TB a₀ st'/\Chn (arrOf st') 0 (pendingOf st').toList a₀.size/\(pendingOf st').size<=1) ?fstep ?ffin ⟨rfl,b,g, .inr 'o'⟩) ?fpost)
  case ffin=>exact λc st' ⟨e,b,g,l⟩=>⟨e,b,g,'o'⟩
  case fstep=>
   intro x c st2 _ hx ⟨e,b2,g2,l⟩;subst e;refine JY (wpS_get ?_);by_cases zp:(pendingOf st2).size<=1
   ·rw[Jg zp];exact JZ ⟨rfl,b2,g2,zp⟩
   rw[Jf zp];refine JY (zlp h0 b2 g2 (Je _) (by (repeat' split)<;>omega) λst3 b3 g3 z3 _=> ?_);simp only[Bool.not_true,Js,if_false];exact JZ ⟨rfl,b3,g3,'o'⟩
  case fpost=>
   intro c st2 ⟨e,b2,g2,l⟩;subst e;refine JZ (h st2 b2 ?_);generalize hl:(pendingOf st2).toList=pl at g2;have ll:pl.length<=1:=by rw[<-hl,Jx];exact l
   match pl,ll,g2 with
   | [],_,g=>have:0=a₀.size:=g;omega
   | [z],_,⟨_,_,sg,ee⟩=>
    have ee':0+z.2.1=a₀.size:=ee;rw[ee'] at sg;exact λi j u v=>sg i j (Jv _) u v
end
end L2.Tm
namespace L2.Se
open PySem PyProof.Rows
variable{xs:Array Nat}{L:Bool}
def Rs(xs:Array Nat):Prop:=xs.toList.Pairwise (· < ·)
theorem Rs.lt(h:Rs xs){i j:Nat}(hij:i<j)(hj:j<xs.size):xs[i]<xs[j]:=by
 have:=List.pairwise_iff_getElem.mp h i j (by simpa using Nat.lt_trans hij hj) (by simpa using hj) hij;simpa using this
theorem kR{i d:Nat}(h:i<xs.size):xs.getD i d=xs[i]:=by
 rw[Array.getD_eq_getD_getElem?,getElem?_pos xs i h];rfl
theorem kS{xs:Array Nat}(h:Rs xs)(j:Nat): ∀(fuel lo hi:Nat),lo<=hi->(hh:hi<=xs.size)->hi - lo<=fuel->(∀i,(_:i<lo)->(hi':i<xs.size)->xs[i]<j)->(∀i,hi<=i->(hi':i<xs.size)->j<=xs[i])->
  SetTable.below.go xs j fuel lo hi<=xs.size/\(∀i,i<SetTable.below.go xs j fuel lo hi->(hi':i<xs.size)->xs[i]<j)/\ ∀i,SetTable.below.go xs j fuel lo hi<=i->(hi':i<xs.size)->j<=xs[i]
 |0,lo,hi,a,b,c,d,e=>by
  obtain rfl:lo=hi:=by omega
  exact⟨b,d,e⟩
 |fuel+1,lo,hi,a,b,c,d,e=>by
  rw[SetTable.below.go];by_cases z:lo<hi
  ·rw[Jg z];have hm:(lo+hi) / 2<xs.size:=by omega
   dsimp only;rw[kR hm];by_cases q:xs[(lo+hi) / 2]<j
   ·rw[Jg q];refine kS h j fuel _ hi 'o' b 'o' (λi u v=> ?_) e;by_cases k:i=(lo+hi) / 2
    ·subst k;exact q
    ·exact Nat.lt_trans (h.lt (show i<(lo+hi) / 2 by omega) hm) q
   ·rw[Jf q];refine kS h j fuel lo _ 'o' 'o' 'o' d (λi u v=> ?_);by_cases k:i=(lo+hi) / 2
    ·subst k;omega
    ·have:=h.lt (show (lo+hi) / 2<i by omega) v;omega
  ·rw[Jf z];obtain rfl:lo=hi:=by omega
   exact⟨b,d,e⟩
theorem zfj(h:Rs xs)(j:Nat):SetTable.below xs j<=xs.size/\(∀i,i<SetTable.below xs j->(hi':i<xs.size)->xs[i]<j)/\ ∀i,SetTable.below xs j<=i->(hi':i<xs.size)->j<=xs[i]:=
 kS h j _ 0 _ (Jv _) (Je _) (Je _) (λi u=>absurd u (Nat.not_lt_zero _)) λi u v=>by omega
structure TG (L:Bool) (t:SetTable):Prop where
 led:t.led=L
 dum:t.dummies= #[]
 ris:t.plain=true->Rs t.place
theorem zhG{t:SetTable}(h:t.dummies= #[])(j:Nat):SetTable.has t.dummies j=false:=by
 unfold SetTable.has;rw[h];simp
theorem ziv{t:SetTable}(h:t.dummies= #[])(j:Nat):t.slot j≠ .dummy:=by
 unfold SetTable.slot;rw[zhG h];dsimp only;split
 ·exact nofun
 ·simp
theorem zfk{t:SetTable}(h:t.dummies= #[]){hashAt:Nat->Int}{hs:Int}: ∀(fuel:Nat) (p:SetTable.Probe) {j:Nat} {d:Option Nat},p.dummy=none->SetTable.probe.go t hashAt hs fuel p=some (.empty j d)->d=none/\t.slot j= .empty
 |0,p,j,d,_,e=>by cases e
 |fuel+1,p,j,d,q,e=>by
  rw[SetTable.probe.go] at e;cases z:t.slot p.j with
  |empty=>
   rw[z] at e;cases e;exact⟨q,z⟩
  |dummy=>exact absurd z (ziv h _)
  |live i=>
   rw[z] at e;dsimp only at e;split at e
   ·cases e
   ·refine zfk h fuel _ ?_ e;unfold SetTable.advance;split
    ·exact q
    ·exact q
theorem zoS{t:SetTable}{j:Nat}(h:Rs t.place)(z:t.slot j= .empty):Rs (SetTable.insertAt t.place (SetTable.below t.place j) j):=by
 obtain⟨b1,b2,b3⟩:=zfj h j;generalize hb:SetTable.below t.place j=b at b1 b2 b3 ⊢;have ne: ∀(q:b<t.place.size),t.place[b]≠j:=λq e=>by
  unfold SetTable.slot at z;rw[hb] at z;dsimp only at z;rw[Jg (by rw[getElem?_pos t.place b q,e];simp)] at z;cases z
 unfold Rs;rw[SetTable.toList_insertAt];have h1:(t.place.toList.take b).Pairwise (· < ·):=List.Pairwise.sublist (List.take_sublist _ _) h;have h2:(t.place.toList.drop b).Pairwise (· < ·):=List.Pairwise.sublist (List.drop_sublist _ _) h;have t1: ∀x∈t.place.toList.take b,x<j:=λx hx=>by
  obtain⟨i,hi⟩:=List.mem_iff_getElem?.mp hx;rw[List.getElem?_take] at hi;by_cases q:i<b
  ·rw[Jg q,JG] at hi;obtain⟨u,v⟩:=Array.getElem?_eq_some_iff.mp hi;rw[<-v];exact b2 i q u
  ·rw[Jf q] at hi;cases hi
 have t2: ∀x∈t.place.toList.drop b,j<x:=λx hx=>by
  obtain⟨i,hi⟩:=List.mem_iff_getElem?.mp hx;rw[List.getElem?_drop,JG] at hi;obtain⟨u,v⟩:=Array.getElem?_eq_some_iff.mp hi;rw[<-v];have hb':b<t.place.size:=by omega
  have q1:=b3 b (Je _) hb';have q2:=ne hb';by_cases k:i=0
  ·subst k;simp only[Nat.add_zero];omega
  ·have:=h.lt (show b<b+i by omega) u;omega
 (try simp only[JM,List.cons_append,List.nil_append])
 refine List.pairwise_append.mpr ⟨h1,List.pairwise_cons.mpr ⟨t2,h2⟩,λx hx y hy=> ?_⟩;rcases JD.mp hy with e|e
 ·rw[e];exact t1 x hx
 ·exact Nat.lt_trans (t1 x hx) (t2 y e)
theorem TG.stand{t:SetTable}(h:TG L t)(n:Nat):TG L (t.standIn n):=⟨h.led,rfl,λz=>by cases z⟩
theorem TG.lay{t:SetTable}(h:TG L t)(es:Array (Int×Value))(hs:Int)(x:Value):TG L (layNew t es hs x).2.1:=by
 unfold layNew;cases e:t.freeSlot hs with
 |none=>exact h.stand _
 |some q=>
  obtain⟨slot,was⟩:=q;dsimp only;have hp:TG L (t.put slot).1:=by
   refine⟨h.led,?_,λz=> ?_⟩
   ·show (if SetTable.has t.dummies slot=true then _ else t.dummies)= #[];rw[zhG h.dum,Jf 'd'];exact h.dum
   ·refine zoS (h.ris z) ?_;unfold SetTable.freeSlot at e;split at e
    ·rename_i j d ej;have ej':SetTable.probe.go t (λ_=>hs+1) hs (10*SetTable.turns t.mask) (t.probeStart hs)=some (.empty j d):=ej;obtain⟨d0,sj⟩:=zfk h.dum _ _ rfl ej';subst d0;cases e;exact sj
    ·cases e
  unfold SetTable.orStandIn;split
  ·exact hp
  ·exact hp.stand _
theorem TG.relay{t:SetTable}(h:TG L t)(es:Array (Int×Value))(n:Nat):TG L (relayAll t es n).2.1:=by
 unfold relayAll;cases e:t.relaid (es.map (·.1)) n with
 |none=>exact h.stand _
 |some q=>
  obtain⟨t',order⟩:=q;dsimp only;have hp:TG L t':=by
   unfold SetTable.relaid SetTable.laid at e;obtain⟨owner,_,e2⟩:=Option.bind_eq_some_iff.mp e;cases e2;refine⟨h.led,rfl,λ_=> ?_⟩;show List.Pairwise _ _;rw[List.map_filterMap];refine List.Pairwise.filterMap (R:=(· < ·)) _ ?_ List.pairwise_lt_range;intro a a' haa b hb b' hb';simp only[Option.map_map,Jk] at hb hb';obtain⟨_,_,rfl⟩:=hb;obtain⟨_,_,rfl⟩:=hb';exact haa
  split
  ·exact hp
  ·exact h.stand _
end L2.Se
namespace L2.Se
open PySem PyProof.Rows
abbrev setO(es:Array (Int×Value))(ep:Nat)(t:SetTable):Obj:={cls:= .type "set",dict:=none,data:= .set es ep t,slots:= #[]}
def EL(es:Array (Int×Value)):Prop:= ∀e∈es.toList,∃k tk,e=(hashInt k,Value.int k tk)
def nm(e:Int×Value):Int:=numOf e.2
structure SI (a:Addr) (L:Bool) (ks:List Int) (h:Heap):Prop where
 ex: ∃es ep t,h.get? a=some (setO es ep t)/\EL es/\(es.toList.map nm).Perm ks/\es.size<scanBound/\t.fits es.size=true/\TG L t
def dd(ks:List Int)(k:Int):List Int:=if k∈ks then ks else ks++ [k]
section
variable {prog:Program} {w:World} {A:Around} {E:Value->Shared->Prop} {s:Shared}
theorem zqp{es:Array (Int×Value)}(h:EL es):ElemsOf (intKind prog w) es.toList:=λe he=>by
 obtain⟨k,tk,rfl⟩:=h e he;exact⟨⟨k,intKind_is _ _ _ _,rfl⟩,rfl⟩
theorem stored{a:Addr}{es:Array (Int×Value)}{ep:Nat}{t:SetTable}{h:Heap}(e:h.get? a=some (setO es ep t))(es':Array (Int×Value))(t':SetTable):(h.update a (Obj.putSet es' t')).get? a=some (setO es' (ep+1) t'):=
 Heap.get?_update_self (Obj.putSet es' t') e rfl
theorem zoT{a:Addr}{L:Bool}{ks:List Int}{k:Int}{tk:Tok}{Q:Bool->Shared->Prop}(hS:SI a L ks s.heap)(hr:ks.length+1<scanBound)
  (h: ∀b h',Heap.SameBut a s.heap h'->SI a L (dd ks k) h'->Q b {s with heap:=h'}):wpAny (model prog w) A (setAddHashed a (.int k tk) (hashInt k)) Q E s:=by
 obtain⟨es,ep,t,ho,el,pm,hb,hf,tg⟩:=hS.ex;have els:ElemsOf (intKind prog w) es.toList:=zqp el;have ez:es.size=ks.length:=by rw[<-Jx,<-pm.length_eq,Ja]
 unfold setAddHashed setAddHashedIn;refine wpAny_holding (JW (wpAny_setState_of ho rfl hf ?_));dsimp only;rw[byScan_of (knd:=intKind prog w) rfl hb els];simp only[↓reduceIte];unfold setAddByScan;refine JW (JW (wpAny_rule (JW (wpAny_setScan_of (knd:=intKind prog w) (k:=k) (intKind_is _ _ _ _) ho rfl hf els ?_))));have hin:k∈ks↔ ∃e∈es.toList,(intKind prog w).is k e.2=true:=by
  rw[<-pm.mem_iff,Jw];refine⟨λ⟨e,he,q⟩=> ?_,λ⟨e,he,q⟩=> ?_⟩
  ·obtain⟨k',tk',rfl⟩:=el e he;obtain rfl:k'=k:=q;exact⟨_,he,intKind_is _ _ _ _⟩
  ·obtain⟨k',tk',rfl⟩:=el e he;exact⟨_,he,((intKind prog w).inj _ _ _ q (intKind_is _ _ _ _)).symm⟩
 cases hr':List.findIdx? (λe=>(intKind prog w).is k e.2) es.toList with
 |some j=>
  dsimp only;obtain⟨hj,hpj,_⟩:=List.findIdx?_eq_some_iff_getElem.mp hr';have hk:k∈ks:=hin.mpr ⟨_,List.getElem_mem hj,hpj⟩;refine JX (JX ?_)
  have:=h false s.heap (Heap.SameBut.refl a s.heap) (by unfold dd;rw[Jg hk];exact hS);exact this
 |none=>
  dsimp only;have hk:k∉ks:=λz=>by
   obtain⟨e,he,q⟩:=hin.mp z
   have:=List.findIdx?_eq_none_iff.mp hr' e he;rw[q] at this;cases this
  have hp:=layNew_perm t es (hashInt k) (.int k tk);have hl:=layNew_fits t es (hashInt k) (.int k tk);have hg:=tg.lay es (hashInt k) (.int k tk);have ehk:(intKind prog w).hash k=hashInt k:=rfl;generalize hL:layNew t es (hashInt k) (.int k tk)=R at hp hl hg ⊢;obtain⟨es1,t1,was,gave⟩:=R;dsimp only at hp hl hg ⊢;rw[Array.toList_push] at hp;have el1:EL es1:=λe he=>by
   rcases Jr.mp (hp.mem_iff.mp he) with z|z
   ·exact el e z
   ·rw[Jm.mp z];exact⟨k,tk,rfl⟩
  have pm1:(es1.toList.map nm).Perm (dd ks k):=by
   unfold dd;rw[Jf hk];refine(hp.map nm).trans ?_;rw[Jd];exact pm.append_right _
  have z1:es1.size=ks.length+1:=by
   rw[<-Jx,hp.length_eq,Jj,Jx,ez];rfl
  have o1:=stored ho es1 t1;have fin: ∀g:Bool->Sem Unit,(∀(b:Bool) (s₁:Shared) (Q':Unit->Shared->Prop),Q' () s₁->wpAny (model prog w) A (g b) Q' E s₁)->wpAny (model prog w) A (do
    storeSet a es1 t1
    if (!was && t1.tooFull)=true then do
     g (relayAll t1 es1 (SetTable.grown es1.size)).2.2
     storeSet a (relayAll t1 es1 (SetTable.grown es1.size)).1 (relayAll t1 es1 (SetTable.grown es1.size)).2.1
     pure (some true)
    else pure (some true)) (λr s'=>r=some true/\ ∃h',s'={s with heap:=h'}/\Heap.SameBut a s.heap h'/\SI a L (dd ks k) h') E s:=by
   intro g gw;refine JW (wpAny_storeSet_of ho rfl ?_ (fits_of_scanBound 'o'));have sb1:=Heap.SameBut.update s.heap a (Obj.putSet es1 t1);split
   ·have hp2:=relayAll_perm t1 es1 (SetTable.grown es1.size);have hf2:=relayAll_fits t1 es1 (SetTable.grown es1.size);have hg2:=hg.relay es1 (SetTable.grown es1.size);generalize relayAll t1 es1 (SetTable.grown es1.size)=R2 at hp2 hf2 hg2 ⊢;obtain⟨es2,t2,gave2⟩:=R2;dsimp only at hp2 hf2 hg2 ⊢;have z2:es2.size=es1.size:=by rw[<-Jx,hp2.length_eq,Jx]
    refine JW (gw _ _ _ (JW (wpAny_storeSet_of o1 rfl (JX ⟨rfl,_,rfl,sb1.trans (Heap.SameBut.update _ a _),⟨es2,_,t2,stored o1 es2 t2,λe he=>el1 e (hp2.mem_iff.mp he),(hp2.map nm).trans pm1,'o',hf2,hg2⟩⟩) (fits_of_scanBound 'o'))))
   ·exact JX ⟨rfl,_,rfl,sb1,⟨es1,_,t1,o1,el1,pm1,'o',hl,hg⟩⟩
  have gw: ∀(b:Bool) (s₁:Shared) (Q':Unit->Shared->Prop),Q' () s₁->wpAny (model prog w) A (match b with|true=>rule "set.scan.the-table-gave-way"|false=>pure ()) Q' E s₁:=λb s₁ Q' q=>by
   cases b
   ·exact JX q
   ·exact wpAny_rule q
  refine JW (gw _ _ _ ?_);have hbv:hashByValue 8 (Value.int k tk)=pure true:=hashByValue_scannable 8 rfl;split
  case' isTrue=>refine JW ?_
  case' isTrue=>rw[hbv]
  case' isFalse=>refine JW ?_
  all_goals
   refine JX ?_;simp only[↓reduceIte];refine wpAny_mono (fin _ ?_) (λr s' ⟨e1,h',e2,sb,si⟩=> ?_) λ_ _ e=>e
   ·intro b s₁ Q' q;cases b
    ·exact JX q
    ·exact wpAny_rule q
   ·subst e1 e2;exact JX (h true h' sb si)
end
end L2.Se
namespace L2.Se
open PySem PyProof.Rows
def ledOf(w:World):Bool:= !(w.params.followText "set-order")
section
variable {prog:Program} {w:World} {A:Around} {E:Value->Shared->Prop} {s:Shared}
theorem zm7(a:Value){Q₁:Value->Shared->Prop}(h:Q₁ (.ref s.heap.objs.size) {s with heap:=s.heap.push (setO #[] 0 (.fresh 0 0 (ledOf w)))}):
  codeAny (model prog w) A (.call (.builtin "set.__new__") ⟨[.type "set",a], []⟩) (wants Q₁ E) s:=by
 refine codeAny_of_tree ?_;show wpAny _ A.in1 (do checkBuiltinCall "set.__new__" ⟨[.type "set",a], []⟩;again (.builtin "set.__new__" ⟨[.type "set",a], []⟩)) _ _ s;have e1:=PySem.F.newCall_set_1 a;have q1:=plainId_quiet PySem.F.plain_set_new;refine JW (wpAny_of_eq e1 (JX ⟨q1 _,codeAny_builtin PySem.F.entry_set_new ?_⟩));rw[Around.under_plainId PySem.F.plain_set_new _];have sub:=PySem.sub_set_self;obtain⟨hp,g,d,tk,os⟩:=s;unfold Builtin.«set.__new__» Builtin.Frozenset.newClass;dsimp only;wp_walk
 refine wpAny_askSetting (JX ?_);dsimp only;simp only[newObj];exact JW (wpAny_alloc (JX (JX h)))
end
section
variable {prog:Program} {w:World} {A:Around} {R:Result->Shared->Prop} {I:Addr} {fp wr:List Addr} {G:Array GenState->Array GenState->Prop} {n:Nat} {P:Nat->Value->Prop} {St:Nat->Shared->Prop}
def metOf(val:Nat->Int)(i:Nat):List Int:=((List.range i).map val).foldl dd []
theorem met_succ(val:Nat->Int)(i:Nat):metOf val (i+1)=dd (metOf val i) (val i):=by
 unfold metOf;rw[JQ,Jd,List.foldl_append];rfl
theorem zoU(ks:List Int)(k:Int):(dd ks k).length<=ks.length+1:=by
 unfold dd;split
 ·omega
 ·rw[Jj];exact Je _
theorem met_len(val:Nat->Int): ∀i,(metOf val i).length<=i
 |0=>Je _
 |i+1=>by
  have:=met_len val i
  have:=zoU (metOf val i) (val i);rw[met_succ];omega
theorem SI.at{a:Addr}{L:Bool}{ks:List Int}{h h':Heap}(x:SI a L ks h)(e: ∀o,h.get? a=some o->h'.get? a=some o):SI a L ks h':=by
 obtain⟨es,ep,t,ho,r⟩:=x.ex;exact⟨es,ep,t,e _ ho,r⟩
theorem zlq{L:Bool}(W:WalksS prog w A.in1 I fp wr G n P St)(S:Addr)(hSf:S∉fp)(val:Nat->Int)(hval: ∀i v,P i v-> ∃t,v= .int (val i) t)(hb:n+1<scanBound):
  ∀(k i:Nat) (s:Shared),n - i=k->i<=n->St i s->SI S L (metOf val i) s.heap->(∀s',Moved (S::wr) G s s'->SI S L (metOf val n) s'.heap->R (.ok (.ret .none)) s')->
   codeAny (model prog w) A (.builtin "set.update.loop" ⟨[.ref S, .ref I], []⟩) R s:=by
 have nw:S∉wr:=λh=>hSf (W.sub _ h);have sub: ∀b∈wr,b∈S::wr:=λb hb=>Jl _ hb;intro k;induction k with
 |zero=>
  intro i s hk hi hst hS hR;obtain rfl:i=n:=by omega
  refine codeAny_builtin PyProof.Rows.F.entry_set_update_loop ?_;rw[Around.under_plainId PyProof.Rows.F.plain_set_update_loop _];show wpAny _ A.in1 (pyNext (.ref I)>>=_) _ _ s;exact JW (W.done s _ _ hst λs' hm=>JX (hR s' (hm.mono sub) (hS.at λo e=>hm.heap S o nw e)))
 |succ k ih=>
  intro i s hk hi hst hS hR;have hlt:i<n:=by omega
  refine codeAny_builtin PyProof.Rows.F.entry_set_update_loop ?_;rw[Around.under_plainId PyProof.Rows.F.plain_set_update_loop _];show wpAny _ A.in1 (pyNext (.ref I)>>=_) _ _ s;refine JW (W.item i s _ _ hlt hst λv s' hP hst' hm=> ?_);obtain⟨t,rfl⟩:=hval i v hP;have hS':=hS.at λo e=>hm.heap S o nw e;show wpAny _ A.in1 (holding [Value.int (val i) t] (setAdd S (.int (val i) t))>>=_) _ _ s';refine JW (wpAny_holding ?_);unfold setAdd;refine wpAny_holding (JW ((intKind prog w).pyHash (k:=val i) (intKind_is _ _ _ _) ?_));have ml:=met_len val i;refine zoT (s:={s' with toks:=s'.toks+1}) hS' 'o' λb h' sb si=> ?_;rw[<-met_succ] at si;refine JX ⟨plainId_quiet PyProof.Rows.F.plain_set_update_loop _,ih (i+1) _ 'o' hlt (W.frame _ s' _ _ hst' (Nat.le_succ _) λb hb o e=> ?_) si λs'' hm'' hS''=> ?_⟩
  ·rw[sb.2 b (λh:b=S=>hSf (by rw[<-h];exact hb))];exact e
  ·refine hR s'' (Moved.trans W.gtrans ((hm.mono sub).then_heap (Nat.le_succ _) λb o hb e=> ?_) hm'') hS'';rw[sb.2 b (λh:b=S=>hb (by rw[h];exact Jq))];exact e
end
section
variable {prog:Program} {w:World} {A:Around} {E:Value->Shared->Prop} {s:Shared}
theorem set_list{l:Addr}{its:Array Value}{ns:List Int}{Q:Value->Shared->Prop}(hh:A.handled=none)(hl:s.heap.IsList l its)(hi:IntsAre its.toList ns)(hb:its.size+1<scanBound)
  (h: ∀(h':Heap) (tk:Nat),SI s.heap.objs.size (ledOf w) (metOf (λi=>ns.getD i 0) its.size) h'->(∀b o,b<s.heap.objs.size->s.heap.get? b=some o->h'.get? b=some o)->Q (.ref s.heap.objs.size) {s with heap:=h',toks:=tk}):
  wpAny (model prog w) A (call (.type "set") [.ref l]) Q E s:=by
 obtain⟨c,tl,hmro⟩:=PySem.F.called_set.mro;have hmade:=PySem.F.called_set.made;have hsub:=PySem.F.called_set.sub;refine wpAny_call (codeAny_of_tree ?_);show wpAny _ _ (callAny (.type "set") _) _ _ _;refine JX ⟨Code.quiet_builtin _ (by decide+kernel),codeAny_builtin PySem.F.entry_type_call ?_⟩;rw[Around.under_plain (weight_type_call_type "set" [.ref l] []) rfl];have h1:=PySem.F.called_set.notType;have h2:=PySem.F.called_set.canCreate;have hct:=PySem.F.typeCall_set_1 (.ref l);repeat (any_goals (first|assumption|wp_step))
 obtain⟨o0,ho0⟩: ∃o0,o0=setO #[] 0 (.fresh 0 0 (ledOf w)):=⟨_,rfl⟩
 refine codeAny_mono (zm7 (.ref l) (E:=E) (Q₁:=λv s₁=>v= .ref s.heap.objs.size/\s₁={s with heap:=s.heap.push o0}) ⟨rfl,by rw[ho0]⟩) λr s₁ hr=> ?_;cases r with
 |error e=>exact hr
 |ok fl=>
  cases fl with
  |ret obj=>
   obtain⟨e1,e2⟩:=hr;subst e1 e2;have hS:(s.heap.push o0).get? s.heap.objs.size=some (setO #[] 0 (.fresh 0 0 (ledOf w))):=by rw[ho0];exact Qc _ rfl
   have hT:Shared.TypeIs {s with heap:=s.heap.push o0} (.ref s.heap.objs.size) "set":=⟨_,hS,rfl⟩
   have hli:=PySem.F.called_set.init.lookup;have hbi:=PySem.F.called_set.init.bind (.ref s.heap.objs.size);repeat (any_goals (first|assumption|wp_step))
   refine codeAny_mono (codeAny_call_builtin (R:=wants (λr s₂=>r= .none/\ ∃h' tk,s₂={s with heap:=h',toks:=tk}/\SI s.heap.objs.size (ledOf w) (metOf (λi=>ns.getD i 0) its.size) h'/\(∀b o,b<s.heap.objs.size->s.heap.get? b=some o->h'.get? b=some o)) E) PySem.F.called_set.init.plain PySem.F.entry_set_init (PySem.check_set_init_1 hT ?_)) λr₂ s₂ hr₂=> ?_
   ·obtain⟨ol,hol,hcl,nl,hdl⟩:=hl;obtain⟨ocls,odict,odata,oslots⟩:=ol;simp only at hcl hdl;subst hcl hdl;have hol':(s.heap.push o0).get? l=some {cls:= .type "list",dict:=odict,data:= .seq its nl,slots:=oslots}:=Qa _ hol;have hsls:=PySem.F.sub_list_set;have hslf:=PySem.F.sub_list_frozenset;have hne:(Value.type "list"==Value.type "dict")=false:=by decide
    have hl1:(s.heap.push o0).IsList l its:=⟨_,hol',rfl,nl,rfl⟩
    unfold Builtin.«set.__init__» noKeywords Builtin.Frozenset.updateFrom;generalize hPI:pyIter=PI;wp_walk
    subst hPI;refine wpAny_pyIter_list hl1 (JW (wpAny_runValue ?_));have hlS:l<s.heap.objs.size:=Qb hol;have hh3:A.in1.in1.in1.handled=none:=by simp [hh]
    have zp:(s.heap.push o0).objs.size=s.heap.objs.size+1:=Heap.size_push ..;have nI:l≠(s.heap.push o0).objs.size:=λq=>by rw[zp] at q;exact absurd q (JK (Nat.lt_succ_of_lt hlS))
    have nS:s.heap.objs.size∉ [(s.heap.push o0).objs.size,l]:=by
     rw[zp];simp only[JD,List.not_mem_nil,or_false,not_or];exact⟨JK (Nat.lt_succ_self _),Nat.ne_of_gt hlS⟩
    have hval: ∀(i:Nat) (v:Value),its[i]? =some v-> ∃t,v= .int ((λi=>ns.getD i 0) i) t:=λi v hv=>IntsAre.int_at hi i v (by rw[JG];exact hv);refine zlq (L:=ledOf w) ((Walks.list hh3 _ l nI its).toS) s.heap.objs.size nS (λi=>ns.getD i 0) hval hb (its.size - 0) 0 _ 'o' (Jv _) ⟨⟨_,Qc _ rfl,rfl,rfl⟩,hl1.push _⟩ ?hS0 ?hR
    case hS0=>
     exact⟨#[],0,_,Qa _ hS,λe he=>by simp at he,by exact List.Perm.nil,'d',rfl,⟨rfl,rfl,λ_=>List.Pairwise.nil⟩⟩
    case hR=>
     intro s' hm hS';obtain⟨h',g',d',tk',os'⟩:=s';have eg:g'=s.gens:=hm.gens;have ed:d'=s.drawn:=hm.drawn;have eo:os'=s.os:=hm.os;subst eg ed eo;show wpAny _ _ _ _ _ _;refine JX ?_;show wpAny _ _ (ret Value.none) _ _ _;refine JX ⟨rfl,h',tk',rfl,hS',λb o hb e=> ?_⟩;refine hm.heap b o ?_ (Qa _ (Qa _ e));rw[zp];simp only[JD,List.not_mem_nil,or_false,not_or];exact⟨JK hb,JK (Nat.lt_succ_of_lt hb)⟩
   ·cases r₂ with
    |error e=>exact hr₂
    |ok fl₂=>
     cases fl₂ with
     |ret r=>
      obtain⟨rfl,h',tk,rfl,hS',hk'⟩:=hr₂;repeat (any_goals (first|assumption|wp_step))
      exact h _ _ hS' hk'
     |_=>exact hr₂.elim
  |_=>exact hr.elim
end
end L2.Se
namespace L2.Se
open PySem PyProof.Rows
variable{α:Type}{M:Model}{n ep i:Nat}{Q:Option Value->Shared->Prop}{a I:Addr}{es:Array (Int×Value)}{m:Md}{h:Heap}{v:Value}
theorem ua:Slot "set_iterator" "__next__" "set_iterator.__next__":=
 .of (owner:="set_iterator") (n:="__next__") (by rw[typeLookup_type,builtinLookup_eq_fast];kernel_rfl) (by decide+kernel) (by decide+kernel) (by decide+kernel) (by first|exact .inl (by decide+kernel)|exact .inr (by decide+kernel)) (by rw[isSubtype_type];kernel_rfl)
theorem zfl:entryFor table "set_iterator.__next__"=some Builtin.«set_iterator.__next__» :=entryFor_of_tree (by kernel_rfl)
theorem zgd(a:Value):argsOk "set_iterator.__next__" ⟨[a], []⟩:=by unfold argsOk;kernel_rfl
theorem ziw:entryFor table "set.__iter__"=some Builtin.«frozenset.__iter__» :=entryFor_alias (id':="frozenset.__iter__") (by kernel_rfl) rfl (by decide+kernel) (by kernel_rfl)
theorem kT{α:Type}: ∀{l:List α} {i:Nat} (h:i<l.length),(l[i]::l.eraseIdx i).Perm l
 |x::r,0,_=>List.Perm.refl _
 |x::r,i+1,h=>by
  rw[List.eraseIdx_cons_succ,List.getElem_cons_succ];exact(List.Perm.swap _ _ _).trans ((kT (by simpa using h)).cons x)
theorem zge{α:Type}(next:Nat->Nat): ∀(fuel k:Nat) (left:List α) (out:Array α),left.length=fuel->(pickOrder.go next fuel k left out).toList.Perm (out.toList++left)
 |0,k,left,out,h=>by
  obtain rfl:left= []:=List.length_eq_zero_iff.mp h;rw[pickOrder.go,Jt]
 |fuel+1,k,left,out,h=>by
  have lt:next k % left.length<left.length:=Nat.mod_lt _ 'o';rw[pickOrder.go,Jb lt];dsimp only;refine(zge next fuel (k+1) _ _ (by rw[List.length_eraseIdx,Jg lt];omega)).trans ?_;rw[Array.toList_push,JM];refine List.Perm.append_left _ ?_;rw[List.singleton_append];exact kT lt
section
variable {prog:Program} {w:World} {A:Around} {E:Value->Shared->Prop} {s:Shared}
theorem zoV{M:Model}{src:Source}{Q:Nat->Shared->Prop}(hn:n≠0)(h: ∀i,i<n-> ∀d,Q i {s with drawn:=d}):wpAny M A (choose src n) Q E s:=λΓ p _=>by
 intros
 show Sem.wp _ _ (.choose src n .pure) _ _ _ _;rw[Sem.wp_choose];exact⟨hn,h _ (Nat.mod_lt _ (Nat.pos_of_ne_zero hn)) _⟩
theorem zjZ{M:Model}(n:Nat): ∀(xs:List α) {Q:List α->Shared->Prop} {s:Shared},xs.length=n->(∀ys d,ys.Perm xs->Q ys {s with drawn:=d})->wpAny M A (drawOrder n xs) Q E s:=by
 induction n with
 |zero=>
  intro xs Q s h q;obtain rfl:xs= []:=List.length_eq_zero_iff.mp h;exact JX (q [] s.drawn (List.Perm.refl _))
 |succ n ih=>
  intro xs Q s h q;cases xs with
  |nil=>cases h
  |cons x r=>
   unfold drawOrder;refine JW (zoV (by simp) λi hi d=> ?_);rw[Jb hi];dsimp only;refine JW (ih _ (by rw[List.length_eraseIdx,Jg hi];omega) λys d' hp=>JX (q _ _ ?_));exact(hp.cons _).trans (kT hi)
abbrev qX(first:Value)(i:Nat)(a:Addr)(n ep:Nat):Obj:={cls:= .type "set_iterator",data:= .fields #[first, .int i 0, .ref a, .int n 0, .int ep 0]}
theorem Rs.short{xs:Array Nat}(h:xs.size<=1):Rs xs:=by
 unfold Rs;match hx:xs.toList with
 | []=>exact List.Pairwise.nil
 | [x]=>exact List.pairwise_singleton _ _
 |x::y::r=>rw[<-Jx,hx] at h;simp at h
inductive Md where
 |text
 |slots
 |lot (tp:Addr) (ps:List Nat)
def xP(t:SetTable)(i:Nat):Md->Value
 | .text=> .int 0 0
 | .slots=> .int ((if i=0 then 0 else t.place.getD (i - 1) 0+1:Nat):Int) 0
 | .lot tp _=> .ref tp
def ord(w:World)(a:Addr)(es:Array (Int×Value))(ep:Nat):Md->List (Int×Value)
 | .text=>(pickOrder (w.params.setOrder a ep) es).toList
 | .slots=>es.toList
 | .lot _ ps=>ps.filterMap λp=>es[p]?
structure MdOk (w:World) (es:Array (Int×Value)) (t:SetTable) (m:Md) (h:Heap):Prop where
 tx:m= .text->w.params.followText "set-order"=true
 sl:m= .slots->w.params.followText "set-order"=false/\(!t.plain && decide (es.size>1))=false/\t.led=true/\Rs t.place
 lt: ∀tp ps,m= .lot tp ps->ps.Perm (List.range es.size)/\ ∃o n,h.get? tp=some o/\o.data= .seq ((ps.map λ(i:Nat)=>rawInt i).toArray) n/\o.cls= .type "tuple"
theorem zhH{t:SetTable}(k:MdOk w es t m h):(ord w a es ep m).Perm es.toList:=by
 cases m with
 |text=>exact zge _ _ _ _ _ (by simp)
 |slots=>exact List.Perm.refl _
 |lot tp ps=>
  have:=((k.lt tp ps rfl).1.filterMap λp=>es[p]?)
  rwa[filterMap_getElem?_range] at this
theorem zj0{t:SetTable}{Q:Value->Shared->Prop}(ho:s.heap.get? a=some (setO es ep t))(hf:t.fits es.size=true)(tg:TG (ledOf w) t)(hz:es.size<=sizeLine)
  (h: ∀(m:Md) (h':Heap) d,(∀b o,s.heap.get? b=some o->h'.get? b=some o)->MdOk w es t m h'->s.heap.objs.size<=h'.objs.size->Q (.ref h'.objs.size) {s with heap:=h'.push (qX (xP t 0 m) 0 a es.size ep),drawn:=d}):
  wpAny (model prog w) A (pyIter (.ref a)) Q E s:=by
 have hT:s.TypeIs (.ref a) "set":=⟨_,ho,rfl⟩
 have sz:t.place.size=es.size:=by
  simp only[SetTable.fits,Bool.and_eq_true,beq_iff_eq] at hf;exact hf.1
 refine wpAny_pyIter_slot hT PySem.F.slot_set_iter (wpAny_call_entry PySem.F.slot_set_iter hT ziw ?_ (PySem.F.args_set_iter_1 _));unfold Builtin.«frozenset.__iter__» Builtin.Frozenset.slot0 slotArgs;simp only[List.isEmpty_nil,Bool.not_true,Js,↓reduceIte,bind_assoc,List.length_nil,bne_self_eq_false];unfold Builtin.Frozenset.addrOf Builtin.Frozenset.sizeOf;refine JW (JX ?_);try dsimp only
 refine JW (JX (JW (JW (wpAny_setEntries_of ho rfl hf (JX ?_)))));try dsimp only
 unfold setDrawn setsByText;refine JW (JW (wpAny_setState_of ho rfl hf (JW (JW (wpAny_askSetting (JX (JX ?_)))))));show wpAny _ _ (if (!w.params.followText "set-order" && (!t.plain && decide (es.size>1)))=true then _ else _) _ _ _;have fin: ∀(m:Md) (h1:Heap) (d1:Drawn),(∀b o,s.heap.get? b=some o->h1.get? b=some o)->MdOk w es t m h1->s.heap.objs.size<=h1.objs.size->wpAny (model prog w) A.in1 (do
   let ep'<-setEpoch a
   let it<-newFields "set_iterator" [xP t 0 m,rawInt 0,Value.ref a,rawInt es.size,rawInt ep']
   ret it) (λfin s'=> ∃v,fin=Fin.done (Flow.ret v)/\ ∃T' r,s'.TypeIs v T'/\typeLookup (Value.type T') (Str.ofString "__next__")=pure (some r)/\Q v s') E {s with heap:=h1,drawn:=d1}:=by
  intro m h1 d1 k1 k2 k3;refine JW (wpAny_setEpoch_of (k1 _ _ ho) rfl hf ?_);exact JW (wpAny_newObj_type (JX ⟨_,rfl,"set_iterator",_,⟨_,Qc _ rfl,rfl⟩,ua.lookup,h m h1 d1 k1 k2 k3⟩))
 cases hb:w.params.followText "set-order" with
 |true=>
  rw[Jf (by simp)];exact JW (JX (fin .text s.heap s.drawn (λ_ _ e=>e) ⟨λ_=>hb,nofun,nofun⟩ (Je _)))
 |false=>
  cases hd:(!t.plain && decide (es.size>1)) with
  |false=>
   rw[Jf (by simp)];refine JW (JX (fin .slots s.heap s.drawn (λ_ _ e=>e) ⟨nofun,λ_=>⟨hb,hd,?_,?_⟩,nofun⟩ (Je _)))
   ·rw[tg.led];unfold ledOf;rw[hb];rfl
   ·cases hp:t.plain with
    |true=>exact tg.ris hp
    |false=>
     rw[hp] at hd;refine Rs.short ?_;rw[sz];simpa using hd
  |true=>
   rw[Jg (by simp)];refine JW (zjZ es.size (List.range es.size) JI λys d hp=> ?_);have yl:ys.length<=sizeLine:=by rw[hp.length_eq,JI];exact JE (Nat.le_of_eq sz.symm) (by
    simp only[SetTable.fits,Bool.and_eq_true,beq_iff_eq,decide_eq_true_eq] at hf;rw[sz];exact hz)
   refine JW (wpAny_newTuple ?_ (by rw[Ja];exact yl));refine fin (.lot s.heap.objs.size ys) _ d (λb o e=>Qa _ e) ⟨nofun,nofun,λtp ps e=> ?_⟩ (by rw[Heap.size_push];exact Nat.le_succ _);cases e;exact⟨hp,_,0,Qc _ rfl,rfl,rfl⟩
theorem zje{t:SetTable}{sl g:Nat}{Q:Option (Value×Nat)->Shared->Prop}(ho:s.heap.get? a=some (setO es ep t))(hf:t.fits es.size=true)(hb:w.params.followText "set-order"=true)
  (h:Q ((pickOrder (w.params.setOrder a ep) es)[g]?.map λe=>(e.2,sl)) s):wpAny (model prog w) A (setNext a sl g ep) Q E s:=by
 unfold setNext setWalk setsByText;refine JW (wpAny_setState_of ho rfl hf (JW (JW (wpAny_askSetting (JX ?_)))));show wpAny _ _ (if w.params.followText "set-order"=true then _ else _) _ _ _;rw[Jg hb,Jf (by simp)];refine JW (JW (wpAny_setState_of ho rfl hf (JW (JW (wpAny_askSetting (JX ?_))))));show wpAny _ _ (if w.params.followText "set-order"=true then _ else _) _ _ _;rw[Jg hb];exact JW (wpAny_askSetting (JX (JX h)))
theorem zhI{t:SetTable}{sl g:Nat}{Q:Option (Value×Nat)->Shared->Prop}(ho:s.heap.get? a=some (setO es ep t))(hf:t.fits es.size=true)(hb:w.params.followText "set-order"=false)(hd:(!t.plain && decide (es.size>1))=false)(hl:t.led=true)
  (h:Q (match es[SetTable.below t.place sl]?,t.place[SetTable.below t.place sl]? with|some (_,x),some j=>some (x,j+1)|_,_=>none) s):wpAny (model prog w) A (setNext a sl g ep) Q E s:=by
 unfold setNext setsByText;refine JW (wpAny_setState_of ho rfl hf (JW (JW (wpAny_askSetting (JX ?_)))));show wpAny _ _ (if w.params.followText "set-order"=true then _ else _) _ _ _;rw[Jf (by rw[hb];decide)];show wpAny _ _ (if (!t.plain && decide (es.size>1))=true then _ else _) _ _ _;rw[Jf (by rw[hd];decide)];show wpAny _ _ ((if (!t.led && !es.isEmpty)=true then unsupported "set:maker-not-led" else pure ())>>=λ_=>_) _ _ _;rw[Jf (by rw[hl];simp)];exact JW (JX (JX h))
theorem zjf{t:SetTable}(h:Rs t.place)(hi:i<=t.place.size):SetTable.below t.place (if i=0 then 0 else t.place.getD (i - 1) 0+1)=i:=by
 obtain⟨b1,b2,b3⟩:=zfj h (if i=0 then 0 else t.place.getD (i - 1) 0+1);generalize SetTable.below t.place (if i=0 then 0 else t.place.getD (i - 1) 0+1)=b at b1 b2 b3 ⊢;by_cases z:i=0
 ·rw[Jg z] at b2 b3;rcases Nat.eq_zero_or_pos b with q|q
  ·omega
  ·have:=b2 0 q 'o';omega
 ·rw[Jf z,kR 'o'] at b2 b3;rcases Nat.lt_trichotomy b i with q|q|q
  ·have:=b3 (i - 1) 'o' 'o';omega
  ·exact q
  ·have h1:=b2 i q 'o';have h2:=h.lt (show i - 1<i by omega) 'o';omega
theorem zqq{v':Value}(e:h.get? I=some (qX v i a n ep)):((h.update I (Obj.mapFields (·.setIfInBounds 0 v'))).update I (Obj.mapFields (·.setIfInBounds 1 (rawInt ((i:Int)+1))))).get? I=some (qX v' (i+1) a n ep)/\ ∀b o,b≠I->h.get? b=some o->((h.update I (Obj.mapFields (·.setIfInBounds 0 v'))).update I (Obj.mapFields (·.setIfInBounds 1 (rawInt ((i:Int)+1))))).get? b=some o:=by
 have e1:(h.update I (Obj.mapFields (·.setIfInBounds 0 v'))).get? I=some (qX v' i a n ep):=Heap.get?_update_self _ e rfl;exact⟨Heap.get?_update_self _ e1 rfl,λb o hb q=>(Qd _ _ (Ne.symm hb)).trans ((Qd _ _ (Ne.symm hb)).trans q)⟩
theorem zqX(e:h.get? I=some (qX v i a n ep)):(h.update I (Obj.mapFields (·.setIfInBounds 1 (rawInt ((i:Int)+1))))).get? I=some (qX v (i+1) a n ep)/\ ∀b o,b≠I->h.get? b=some o->(h.update I (Obj.mapFields (·.setIfInBounds 1 (rawInt ((i:Int)+1))))).get? b=some o:=
 ⟨Heap.get?_update_self _ e rfl,λb o hb q=>(Qd _ _ (Ne.symm hb)).trans q⟩
theorem zm8{t:SetTable}{v:Value}{Q:Option Value->Shared->Prop}(ho:s.heap.get? a=some (setO es ep t))(hf:t.fits es.size=true)(hI:s.heap.get? I=some (qX (xP t i m) i a es.size ep))(hm:MdOk w es t m s.heap)
  (hv:((ord w a es ep m)[i]?).map (·.2)=some v)
  (h: ∀h',h'.get? I=some (qX (xP t (i+1) m) (i+1) a es.size ep)->(∀b o,b≠I->s.heap.get? b=some o->h'.get? b=some o)->Q (some v) {s with heap:=h'}):wpAny (model prog w) A (pyNext (.ref I)) Q E s:=by
 have hT:s.TypeIs (.ref I) "set_iterator":=⟨_,hI,rfl⟩
 unfold pyNext;refine JW (wpAny_attempt (wpAny_callSpecial?_slot (name:=Str.ofString "__next__") hT ua (wpAny_call_entry ua hT zfl ?_ (zgd _))));unfold Builtin.«set_iterator.__next__» slotArgs;simp only[List.isEmpty_nil,Bool.not_true,Js,↓reduceIte,bind_assoc,List.length_nil,bne_self_eq_false];refine JW (JX ?_);refine JW (wpAny_fieldsOf hI rfl ?_);dsimp only;refine JW (wpAny_setEntries_of ho rfl hf ?_);rw[Jf (by simp)];have sz:t.place.size=es.size:=by
  simp only[SetTable.fits,Bool.and_eq_true,beq_iff_eq] at hf;exact hf.1
 cases m with
 |text=>
  refine JW (zje ho hf (hm.tx rfl) ?_);rw[show ((i:Int)).toNat=i from JF i,show ((ep:Int)).toNat=ep from JF ep];unfold ord at hv;rw[JG] at hv;obtain⟨e,he,ev⟩:=Jk.mp hv;rw[he];dsimp only[Option.map]
  have:=zqq (v':= .int 0 0) hI;refine JW (wpAny_setField hI rfl (by simp) (JW (wpAny_setField (Heap.get?_update_self _ hI rfl) rfl (by simp) (JX ⟨_,rfl,?_⟩))));rw[ev];exact JX (h _ this.1 this.2)
 |slots=>
  obtain⟨hb,hd,hl,rs⟩:=hm.sl rfl;unfold ord at hv;rw[JG] at hv;obtain⟨e,he,ev⟩:=Jk.mp hv;have hi:i<es.size:=(Array.getElem?_eq_some_iff.mp he).1;refine JW (zhI ho hf hb hd hl ?_);rw[JF,zjf rs 'o',he,getElem?_pos t.place i 'o'];dsimp only
  have:=zqq (v':= .int ((t.place[i]''o'+1:Nat):Int) 0) hI;refine JW (wpAny_setField hI rfl (by simp) (JW (wpAny_setField (Heap.get?_update_self _ hI rfl) rfl (by simp) (JX ⟨_,rfl,?_⟩))));rw[ev];refine JX (h _ (this.1.trans ?_) this.2);unfold xP;rw[Jf 'o',Nat.add_sub_cancel,kR 'o']
 |lot tp ps=>
  obtain⟨hp,o,n,ht,hd,_⟩:=hm.lt tp ps rfl;refine JW (wpAny_seqItems ht hd ?_);dsimp only;unfold ord at hv;have al: ∀p∈ps,p<es.size:=λp h=>List.mem_range.mp (hp.mem_iff.mp h);have fm: ∀(l:List Nat),(∀p∈l,p<es.size)-> ∀k:Nat,(l.filterMap λp=>es[p]?)[k]? =(l[k]?).bind λp=>es[p]? :=by
   intro l;induction l with
   |nil=>intro _ k;rfl
   |cons p r ih=>
    intro hl k;have hp':=hl p Jq;rw[List.filterMap_cons,getElem?_pos es p hp'];cases k with
    |zero=>rw[List.getElem?_cons_zero,List.getElem?_cons_zero];exact(getElem?_pos es p hp').symm
    |succ k=>rw[List.getElem?_cons_succ,List.getElem?_cons_succ];exact ih (λq h=>hl q (Jl _ h)) k
  rw[fm ps al i] at hv;obtain⟨e,he,ev⟩:=Jk.mp hv;obtain⟨p,hpi,hpe⟩:=Option.bind_eq_some_iff.mp he;rw[JF,List.getElem?_toArray,Jh,hpi];show wpAny _ _ (do let x<-setNextDrawn a (Int.toNat (p:Int)) (Int.toNat (ep:Int));setField (Value.ref I) 1 (rawInt ((i:Int)+1));ret x) _ _ _;rw[JF,JF];unfold setNextDrawn;refine JW (JW (wpAny_setState_of ho rfl hf ?_));dsimp only;rw[Jf (by simp),hpe];refine JX ?_
  have:=zqX hI;refine JW (wpAny_setField hI rfl (by simp) (JX ⟨_,rfl,?_⟩));rw[ev];exact JX (h _ this.1 this.2)
theorem kU{M:Model}{I:Addr}(hh:A.handled=none)(hQ: ∀h',(∀b o,s.heap.get? b=some o->h'.get? b=some o)->Q none {s with heap:=h'}):
  wpAny (model prog w) A.in1 (do let e<-newExc (Value.type "StopIteration") [];raiseNew e) (λfin s'=> ∃v,fin=Fin.done (Flow.ret v)/\wpAny (model prog w) A (pure (some v)) Q E s')
   (λe s'=>wpAny (model prog w) A (do let b<-isInstance e (Value.type "StopIteration");if b=true then pure none else throw e) Q E s') s:=by
 refine JW ?_;simp only[newExc,newTuple];refine JW (wpAny_newObj_type ?_ (by size_fits));refine JW (m:=firstArgMember _ _) (wpAny_of_eq (a:=Value.none) (by first|rfl|(simp only[firstArgMember];rfl)) ?_);refine wpAny_newObj_type ?_ (by size_fits);simp only[raiseNew];refine JW (wpAny_handled ?_);rw[show A.in1.handled=none from hh];refine JW (JX (wpAny_throw ?_));refine JW (wpAny_isInstance (T:="StopIteration") (b:=true) ⟨_,Qc _ rfl,rfl⟩ isSubtype_stop ?_);exact JX (hQ _ λb o e=>Qa _ (Qa _ e))
theorem zlr{t:SetTable}{Q:Option Value->Shared->Prop}(hh:A.handled=none)(ho:s.heap.get? a=some (setO es ep t))(hf:t.fits es.size=true)(hI:s.heap.get? I=some (qX (xP t es.size m) es.size a es.size ep))(hm:MdOk w es t m s.heap)
  (h: ∀h',(∀b o,b≠I->s.heap.get? b=some o->h'.get? b=some o)->Q none {s with heap:=h'}):wpAny (model prog w) A (pyNext (.ref I)) Q E s:=by
 have hT:s.TypeIs (.ref I) "set_iterator":=⟨_,hI,rfl⟩
 have sz:t.place.size=es.size:=by
  simp only[SetTable.fits,Bool.and_eq_true,beq_iff_eq] at hf;exact hf.1
 unfold pyNext;refine JW (wpAny_attempt (wpAny_callSpecial?_slot (name:=Str.ofString "__next__") hT ua (wpAny_call_entry ua hT zfl ?_ (zgd _))));unfold Builtin.«set_iterator.__next__» slotArgs;simp only[List.isEmpty_nil,Bool.not_true,Js,↓reduceIte,bind_assoc,List.length_nil,bne_self_eq_false];refine JW (JX (JW (wpAny_fieldsOf hI rfl ?_)));dsimp only;refine JW (wpAny_setEntries_of ho rfl hf ?_);rw[Jf (by simp)];have oth: ∀(f:Obj->Obj) b o,b≠I->s.heap.get? b=some o->(s.heap.update I f).get? b=some o:=λf b o hb q=>(Qd _ _ (Ne.symm hb)).trans q;have ol:=(zhH (a:=a) (ep:=ep) hm).length_eq;cases m with
 |text=>
  refine JW (zje ho hf (hm.tx rfl) ?_);rw[show ((es.size:Int)).toNat=es.size from JF _,show ((ep:Int)).toNat=ep from JF ep,Array.getElem?_eq_none (by rw[<-Jx];exact Nat.le_of_eq (ol.trans (Jx ..)))];dsimp only[Option.map];exact JW (wpAny_setField hI rfl (by simp) (kU (M:=model prog w) (I:=I) hh λh' k=>h h' λb o hb e=>k b o (oth _ b o hb e)))
 |slots=>
  obtain⟨hb,hd,hl,rs⟩:=hm.sl rfl;refine JW (zhI ho hf hb hd hl ?_);rw[JF,zjf rs 'o',Array.getElem?_eq_none (Je _)];dsimp only;exact JW (wpAny_setField hI rfl (by simp) (kU (M:=model prog w) (I:=I) hh λh' k=>h h' λb o hb e=>k b o (oth _ b o hb e)))
 |lot tp ps=>
  obtain⟨hp,o,n,ht,hd,_⟩:=hm.lt tp ps rfl;refine JW (wpAny_seqItems ht hd ?_);dsimp only;rw[JF,List.getElem?_toArray,List.getElem?_eq_none (by rw[Ja,hp.length_eq,JI];exact Je _)];dsimp only;exact JW (wpAny_setField hI rfl (by simp) (JW (wpAny_setField (Heap.get?_update_self _ hI rfl) rfl (by simp) (kU (M:=model prog w) (I:=I) hh λh' k=>h h' λb o hb e=>k b o ((Qd _ _ (Ne.symm hb)).trans (oth _ b o hb e))))))
end
end L2.Se
namespace L2.Se
open PySem PyProof.Rows
section
variable {prog:Program} {w:World} {A:Around} {E:Value->Shared->Prop} {s:Shared}
theorem zls{R:Result->Shared->Prop}{I a S:Addr}{es:Array (Int×Value)}{ep:Nat}{t:SetTable}{m:Md}{ys:List Value}(hh:A.handled=none)(hf:t.fits es.size=true)(hz:es.size<=sizeLine)(sI:S≠I)(sa:S≠a)(aI:a≠I)(hlot: ∀tp ps,m= .lot tp ps->tp≠S/\tp≠I)(hy:ys=(ord w a es ep m).map (·.2))(yl:ys.length=es.size)(res:Value):
  ∀(k i:Nat) (s:Shared) (c:Nat),es.size - i=k->i<=es.size->s.heap.get? a=some (setO es ep t)->s.heap.get? I=some (qX (xP t i m) i a es.size ep)->MdOk w es t m s.heap->s.heap.get? S=some {cls:= .type "list",data:= .seq (ys.take i).toArray c}->
   (∀h' c',(∀b o,b≠S->b≠I->s.heap.get? b=some o->h'.get? b=some o)->h'.get? S=some {cls:= .type "list",data:= .seq ys.toArray c'}->R (.ok (.ret res)) {s with heap:=h'})->
   codeAny (model prog w) A (.builtin "list.extend.loop" ⟨[.ref S, .ref I,res], []⟩) R s:=by
 have mdk: ∀{h h':Heap},MdOk w es t m h->(∀b o,b≠S->b≠I->h.get? b=some o->h'.get? b=some o)->MdOk w es t m h':=λx k=>⟨x.tx,x.sl,λtp ps e=>(let ⟨p,o,n,e1,e2⟩:=x.lt tp ps e;⟨p,o,n,k _ _ (hlot tp ps e).1 (hlot tp ps e).2 e1,e2⟩)⟩
 intro k;induction k with
 |zero=>
  intro i s c hk hi ho hI hm hS hR;obtain rfl:i=es.size:=by omega
  refine codeAny_builtin PySem.F.entry_extend_loop ?_;rw[Around.under_plainId PySem.F.plain_extend_loop _];show wpAny _ A.in1 (pyNext (.ref I)>>=_) _ _ s;refine JW (zlr (by simpa using hh) ho hf hI hm λh' kk=>JX (hR h' c (λb o _ hb e=>kk b o hb e) ?_));rw[<-yl,JC] at hS;exact kk _ _ sI hS
 |succ k ih=>
  intro i s c hk hi ho hI hm hS hR;have hlt:i<ys.length:=by omega
  refine codeAny_builtin PySem.F.entry_extend_loop ?_;rw[Around.under_plainId PySem.F.plain_extend_loop _];show wpAny _ A.in1 (pyNext (.ref I)>>=_) _ _ s;refine JW (zm8 (v:=ys[i]) ho hf hI hm ?_ λh' hI' kk=> ?_)
  ·rw[<-Jh,<-hy];exact Jb hlt
  have hS':=kk _ _ sI hS;show wpAny _ A.in1 (updateSeq S (·.push ys[i])>>=_) _ _ _;have tl:(ys.take i).length=i:=by rw[JB];omega
  have oth: ∀(f:Obj->Obj) b o,b≠S->h'.get? b=some o->(h'.update S f).get? b=some o:=λf b o hb q=>(Qd _ _ (Ne.symm hb)).trans q;refine JW (wpAny_updateSeq hS' rfl (JX ⟨plainId_quiet PySem.F.plain_extend_loop _,ih (i+1) _ (c+1) 'o' 'o' (oth _ _ _ (Ne.symm sa) (kk _ _ aI ho)) (oth _ _ _ (Ne.symm sI) hI') (mdk hm λb o h1 h2 e=>oth _ _ _ h1 (kk _ _ h2 e)) ?_ λh2 c' k2 hS2=>hR h2 c' (λb o h1 h3 e=>k2 b o h1 h3 (oth _ _ _ h1 (kk _ _ h3 e))) hS2⟩) (by simp [tl];omega) (by simp [tl];omega));rw[Heap.get?_update_self _ hS' rfl];rw[JH,Jb hlt];simp [Obj.mapSeq];omega
theorem collect_set{a:Addr}{ks:List Int}{Q:List Value->Shared->Prop}(hh:A.handled=none)(hS:SI a (ledOf w) ks s.heap)
  (h: ∀(vs:List Value) (ns:List Int) (h':Heap) d tk,IntsAre vs ns->ns.Perm ks->s.heap.objs.size<=h'.objs.size->(∀b o,s.heap.get? b=some o->h'.get? b=some o)->Q vs {s with heap:=h',drawn:=d,toks:=tk}):wpAny (model prog w) A (collect (.ref a)) Q E s:=by
 obtain⟨es,ep,t,ho,el,pm,hb,hf,tg⟩:=hS.ex;have al:=Qb ho;have hz:=fits_of_scanBound hb;unfold collect;refine JW (wpAny_runValue (codeAny_builtin PySem.F.entry_proto_collect ?_));rw[Around.under_plainId PySem.F.plain_proto_collect _];show wpAny _ A.in1 (newList []>>=λl=>again (.builtin "list.__iadd__" ⟨[l, .ref a], []⟩)) _ _ s;refine JW (wpAny_newObj_type (JX ⟨plainId_quiet PySem.F.plain_list_iadd _,codeAny_builtin PySem.F.entry_list_iadd ?_⟩));rw[Around.under_plainId PySem.F.plain_list_iadd _];obtain⟨h1,e1⟩: ∃h1,h1=s.heap.push {cls:= .type "list",data:= .seq ([]:List Value).toArray}:=⟨_,rfl⟩
 have g1:h1.get? s.heap.objs.size=some {cls:= .type "list",data:= .seq ([]:List Value).toArray}:=by rw[e1];exact Qc _ rfl
 have o1: ∀b o,s.heap.get? b=some o->h1.get? b=some o:=λb o e=>by rw[e1];exact Qa _ e
 have z1:h1.objs.size=s.heap.objs.size+1:=by rw[e1];exact Heap.size_push ..
 show wpAny _ A.in1 (Builtin.List.listExtendWith (.ref s.heap.objs.size) (.ref a) (.ref s.heap.objs.size)) _ _ {s with heap:=s.heap.push _};rw[<-e1];unfold Builtin.List.listExtendWith;have hT:Shared.TypeIs {s with heap:=h1} (.ref a) "set":=⟨_,o1 _ _ ho,rfl⟩
 refine JW (wpAny_typeOf hT ?_);have n1:Builtin.List.listSameRef (.ref s.heap.objs.size) (.ref a)=false:=by simp [Builtin.List.listSameRef];exact Nat.ne_of_gt al
 have n2:(Value.type "set"==Value.type "list")=false:=by decide
 have n3:(Value.type "set"==Value.type "tuple")=false:=by decide
 simp only[n1,n2,n3,Bool.or_false,Js,if_false];refine JW (zj0 (s:={s with heap:=h1}) (o1 _ _ ho) hf tg hz λm h2 d k2 md2 z2=> ?_);have ne:h2.get? a=some (setO es ep t):=k2 _ _ (o1 _ _ ho);have z2':h1.objs.size<=h2.objs.size:=z2;have k2': ∀b o,h1.get? b=some o->h2.get? b=some o:=k2;obtain⟨h3,e3⟩: ∃h3,h3=h2.push (qX (xP t 0 m) 0 a es.size ep):=⟨_,rfl⟩
 have o3: ∀b o,h2.get? b=some o->h3.get? b=some o:=λb o e=>by rw[e3];exact Qa _ e
 have g3:h3.get? h2.objs.size=some (qX (xP t 0 m) 0 a es.size ep):=by rw[e3];exact Qc _ rfl
 rw[<-e3];have hT3:Shared.TypeIs {s with heap:=h3,drawn:=d} (.ref a) "set":=⟨_,o3 _ _ ne,rfl⟩
 refine JW (wpAny_holding ?_);unfold Builtin.List.listLengthHint;refine JW (wpAny_specialOf hT3 PySem.F.slot_set_len.lookup ?_);have hs:splitId "set.__len__"=some ("set","__len__"):=by kernel_rfl
 dsimp only;rw[hs];dsimp only;refine JW (wpAny_isInstance hT3 PySem.sub_set_self ?_);simp only[Bool.not_true,Js,if_false];rw[Jg (by decide+kernel)];refine JW (wpAny_typeOf hT3 ?_);refine JX ?_;rw[Jg (by decide+kernel)];refine JW (wpAny_rule ?_);have gS:h3.get? s.heap.objs.size=some {cls:= .type "list",data:= .seq ([]:List Value).toArray}:=o3 _ _ (k2' _ _ g1);show wpAny _ A.in1 ((updateSeq s.heap.objs.size (·.push .none)>>=λ_=>updateSeq s.heap.objs.size (·.pop))>>=_) _ _ _;refine JW (JW (wpAny_updateSeq gS rfl ?_));have g4:=Heap.get?_update_self (Obj.mapSeq (·.push Value.none)) gS rfl;refine wpAny_updateSeq g4 rfl ?_;have g5:=Heap.get?_update_self (Obj.mapSeq (·.pop)) g4 rfl;have oth: ∀b o,b≠s.heap.objs.size->h3.get? b=some o->((h3.update s.heap.objs.size (Obj.mapSeq (·.push Value.none))).update s.heap.objs.size (Obj.mapSeq (·.pop))).get? b=some o:=λb o hb e=>(Qd _ _ (Ne.symm hb)).trans ((Qd _ _ (Ne.symm hb)).trans e);have pm2:=zhH (a:=a) (ep:=ep) md2;have yl:((ord w a es ep m).map (·.2)).length=es.size:=by rw[Ja,pm2.length_eq,Jx]
 have n5:s.heap.objs.size≠h2.objs.size:=by omega
 have n6:s.heap.objs.size≠a:=Nat.ne_of_gt al;have n7:a≠h2.objs.size:=JK (Jy al 'o');have nl: ∀tp ps,m= .lot tp ps->tp≠s.heap.objs.size/\tp≠h2.objs.size:=λtp ps e=>by
  obtain⟨_,o,n,e1,_,e2⟩:=md2.lt tp ps e;refine⟨λz=> ?_,JK (Qb e1)⟩;rw[z,k2' _ _ g1] at e1;cases e1;exact absurd e2 'd'
 have md3:MdOk w es t m ((h3.update s.heap.objs.size (Obj.mapSeq (·.push Value.none))).update s.heap.objs.size (Obj.mapSeq (·.pop))):=⟨md2.tx,md2.sl,λtp ps e=>(let ⟨p,o,n,e1,e2⟩:=md2.lt tp ps e;⟨p,o,n,oth _ _ (nl tp ps e).1 (o3 _ _ e1),e2⟩)⟩
 refine JX ⟨plainId_quiet PySem.F.plain_extend_loop _,zls (m:=m) hh hf hz n5 n6 n7 nl rfl yl _ es.size 0 _ _ rfl (Jv _) (oth _ _ (Ne.symm n6) (o3 _ _ ne)) (oth _ _ (Ne.symm n5) g3) md3 g5 λh' c' kk g6=> ?_⟩;show wpAny _ A (load s.heap.objs.size>>=_) _ _ _;refine JW (wpAny_load g6 (JX ?_));rw[List.toList_toArray];have allI: ∀l:List (Int×Value),(∀e∈l,∃k tk,e=(hashInt k,Value.int k tk))->IntsAre (l.map (·.2)) (l.map nm):=by
  intro l;induction l with
  |nil=>exact λ_=> .nil
  |cons x r ih=>
   intro hl;obtain⟨k,tk,rfl⟩:=hl x Jq;exact .cons k tk (ih λe h=>hl e (Jl _ h))
 refine h _ _ h' d s.toks (allI _ λe he=>el e (pm2.mem_iff.mp he)) ((pm2.map nm).trans pm) ?_ λb o e=> ?_
 ·exact Nat.le_of_lt (Nat.lt_of_le_of_lt (Je _) (Qb g6))
 ·have lt:=Qb e;exact kk b o (JK lt) (JK (Jy lt 'o')) (oth _ _ (JK lt) (o3 _ _ (k2' _ _ (o1 _ _ e))))
end
end L2.Se
namespace L2.Se
open PySem PyProof.Rows
section
variable {prog:Program} {w:World} {A:Around} {E:Value->Shared->Prop} {s:Shared}
theorem zj1{a:Addr}{vs:List Value}{ns:List Int}{n:Nat}{P:PySem.Fin->Shared->Prop}(ho:s.heap.get? a=some (seqObj "list" vs.toArray n))(hI:IntsAre vs ns)(hz:vs.length<=sizeLine)
  (h: ∀(out:Array Value) (ns':List Int),IntsAre out.toList ns'->ns'.Perm ns->ns'.Pairwise (· <= ·)->P (.done (.ret .none)) {s with heap:=sortedHeap s.heap a vs out}):wpAny (model prog w) A (Builtin.«list.sort» ⟨[.ref a], []⟩) P E s:=by
 by_cases h2:vs.length<64
 ·exact list_sort_tree ho hI h2 h
 obtain⟨v₁,v₂,rest,rfl⟩: ∃v₁ v₂ rest,vs=v₁::v₂::rest:=by
  match vs,h2 with
  | [],q=>exact absurd (Jy Nat.zero_lt_one 'd') q
  | [_],q=>exact absurd (show (1:Nat)<64 by decide) q
  |v₁::v₂::rest,_=>exact⟨v₁,v₂,rest,rfl⟩
 generalize hvs:v₁::v₂::rest=vs at*;have kk:keyKind' vs.toArray=pure oneType':=by rw[<-hvs] at hI ⊢;exact keyKind_ints hI
 obtain⟨e1,g1⟩: ∃e1,(s.heap.update a (Obj.mapSeq λ_=>(#[]:Array Value))).get? a=some (seqObj "list" #[] e1):=⟨_,get?_update_seq ho λ_=> #[]⟩
 obtain⟨h3,hh3⟩: ∃h3,h3=((s.heap.update a (Obj.mapSeq λ_=>(#[]:Array Value))).push (seqObj "tuple" vs.toArray 0)).push (seqObj "list" #[] 0):=⟨_,rfl⟩
 have g3:h3.get? a=some (seqObj "list" #[] e1):=by rw[hh3];exact Qa _ (Qa _ g1)
 rw[list_sort_plain];refine JW (listItems_at ho rfl (JW (listUpdate_at ho rfl ?_ (by rw[Jn];exact hz) (Jv _))));refine JW (seqEpoch_at g1 rfl (JW (wpAny_newTuple ?_ (by show vs.length<=_;exact hz))));refine JW (wpAny_newList (wpAny_holding ?_) (Jv _));show wpAny (model prog w) A _ P E {s with heap:=((s.heap.update a (Obj.mapSeq λ_=> #[])).push (seqObj "tuple" vs.toArray 0)).push (seqObj "list" #[] 0)};rw[<-hh3];dsimp only;have n2: ¬vs.toArray.size<2:=by rw[Jn];omega
 rw[Jf n2,Jf n2,kk];refine JW (JX ?_);refine JW (wpAny_mono (Tm.runs (a₀:=pairsOf vs) (s:={s with heap:=h3}) (st:=SortSt.mk' oneType' (vs.toArray.zip vs.toArray) #[] 7 none) (Q:=λ_ st'=>Tm.TB (pairsOf vs) st'/\SortedTo (arrOf st') (pairsOf vs).size) hI.intKeys ⟨Array.Perm.refl _,rfl,rfl⟩ rfl (by rw[pairsOf_size];omega) λst' b1 b2=>⟨b1,b2⟩) (λr s' hr=> ?_) λ_ _ e=>e);obtain⟨⟨⟩,st'⟩:=r;obtain⟨rfl,hB,hs⟩:=hr;dsimp only;obtain⟨ns',o1,o2,o3⟩:=sorted_out hI hB.pm hs;refine JW (seqEpoch_at g3 rfl (JW (listUpdate_at g3 rfl ?_ (Jv _) (by rw[Array.size_map,hB.pm.size_eq,pairsOf_size];exact Nat.le_succ_of_le hz))));rw[hB.fl];simp only[bne_self_eq_false,Js,if_false];refine JX ?_
 have:=h _ ns' o1 o2 o3;unfold sortedHeap at this;rw[<-hh3] at this;exact this
theorem sorted_by{v:Value}{Q:Value->Shared->Prop}(h:wpAny (model prog w) A.in1 (collect v) (λvs s1=>vs.length<=sizeLine/\ ∃ns,IntsAre vs ns/\ ∀(out:Array Value) (ns':List Int),IntsAre out.toList ns'->ns'.Perm ns->ns'.Pairwise (· <= ·)->Q (.ref s1.heap.objs.size) {s1 with heap:=sortedHeap (s1.heap.push (seqObj "list" vs.toArray 0)) s1.heap.objs.size vs out}) E s):
  wpAny (model prog w) A (call (.builtin "sorted") [v]) Q E s:=by
 refine Calls.call_function_entry kind_sorted plain_sorted entry_sorted (args_sorted1 _) ?_;unfold Builtin.«sorted»;refine JW (m:=checkCount "sorted" 1 1 _) (JX (JW ?_));refine wpAny_mono h (λvs s1 ⟨hz,ns,hI,q⟩=> ?_) λ_ _ e=>e;have g2:(s1.heap.push (seqObj "list" vs.toArray 0)).get? s1.heap.objs.size=some (seqObj "list" vs.toArray 0):=Qc _ rfl;refine JW (wpAny_newList (JW (wpAny_holding (wpAny_call_entry slot_list_sort ⟨_,g2,rfl⟩ entry_list_sort (zj1 (s:={s1 with heap:=s1.heap.push (seqObj "list" vs.toArray 0)}) g2 hI hz λout ns' a1 a2 a3=>⟨_,rfl,JX ⟨_,rfl,q out ns' a1 a2 a3⟩⟩) (args_list_sort _)))) (by exact hz))
end
end L2.Se
namespace L2
open PySem PySem.Spec PyProof.Rows
variable{a:Addr}{x:Str}{X:Cx}{as:List Addr}{ds:List D}{n i:Nat}{pins:List (Addr×Obj)}{σ:St}{H:Hp}{s:Shared}{g:Int->Int->V}
section
variable {X:Cx} {pins:List (Addr×Obj)} {σ:St} {H:Hp} {s:Shared}
theorem Inv.laidD{h':Heap}{t':Nat}{d:Drawn}{o:HO}(I:Inv X pins σ H s)(k: ∀b o,s.heap.get? b=some o->h'.get? b=some o)(hp:s.heap.objs.size<=a)(new:z6 X.prog X.w (upd H a o) h' a o):Inv X pins σ (upd H a o) {s with heap:=h',toks:=t',drawn:=d}:=by
 have hn:=I.hok.fresh hp;refine I.step (g':=s.gens) (d':=d) (ch:= []) (λb hb=>(nomatch hb)) (λb o _ _ hc e _=>k b o e) (λb o _ _ hc e _=>⟨o.slots,k b o e⟩) (λb u _ e n=>by rw[zu (JK (Jy (Qb e) hp))];exact n)
  (λb o hc e=>⟨o,k b o e⟩) (λb xs e=>by rw[zu (yZ e hn)];exact e) (λb o u e=>by rw[zu (yZ e hn)];exact e) (λb ps e=>⟨#[],by rw[zu (yZ e hn),e];simp⟩) (λm hm=> ?_) (λb u e=> ?_) I.bare
 ·obtain⟨o,es,ep,ho,r⟩:=hm;exact⟨o,es,ep,k _ o ho,r⟩
 ·by_cases hb:b=a
  ·subst hb;rw[zF] at e;cases e;exact new
  ·rw[zu hb] at e;exact(I.hok b u e).stay (λc v _ q=>k c v q) (λc q=>by rw[zu (yZ q hn)];exact q) λc xs q=>by rw[zu (yZ q hn)];exact q
end
def vv(zs:List Int):List Int:=Se.metOf (λi=>zs.getD i 0) zs.length
theorem zlt{ks:List Int}{k:Int}(h:ks.Nodup):(Se.dd ks k).Nodup:=by
 unfold Se.dd;split
 ·exact h
 ·rename_i n;exact List.nodup_append.mpr ⟨h,List.pairwise_singleton _ _,λa ha b hb e=>by rw[Jm.mp hb] at e;rw[e] at ha;exact n ha⟩
theorem zoW{ks:List Int}{k x:Int}:x∈Se.dd ks k↔x∈ks\/x=k:=by
 unfold Se.dd;split
 ·rename_i n;exact⟨.inl,λh=>h.elim id λe=>e ▸ n⟩
 ·rw[Jr,Jm]
theorem zgf(val:Nat->Int): ∀n,(Se.metOf val n).Nodup
 |0=>List.Pairwise.nil
 |n+1=>by rw[Se.met_succ];exact zlt (zgf val n)
theorem zjg{val:Nat->Int}{x:Int}: ∀{n},x∈Se.metOf val n↔ ∃i,i<n/\val i=x
 |0=>⟨(λh=>nomatch h),λ⟨i,h,_⟩=>absurd h (Nat.not_lt_zero i)⟩
 |n+1=>by
  rw[Se.met_succ,zoW,zjg];refine⟨λh=> ?_,λ⟨i,h,e⟩=> ?_⟩
  ·rcases h with⟨i,h,e⟩|e
   ·exact⟨i,'o',e⟩
   ·exact⟨n,'o',e.symm⟩
  ·by_cases z:i=n
   ·rw[z] at e;exact .inr e.symm
   ·exact .inl ⟨i,'o',e⟩
theorem zfm(zs:List Int):(vv zs).Nodup:=zgf _ _
theorem zhJ{zs:List Int}{x:Int}:x∈vv zs↔x∈zs:=by
 unfold vv;rw[zjg];refine⟨λ⟨i,h,e⟩=> ?_,λh=> ?_⟩
 ·rw[Jo,Jb h] at e;rw[<-e];exact List.getElem_mem h
 ·obtain⟨i,hi⟩:=List.mem_iff_getElem?.mp h;exact⟨i,(Jc.mp hi).1,by rw[Jo,hi];rfl⟩
theorem zoX{h:Heap}{vs:List Value}{out:Array Value}{b:Addr}{u:Obj}(e:h.get? b=some u):(sortedHeap (h.push (seqObj "list" vs.toArray 0)) h.objs.size vs out).get? b=some u:=by
 have ne:h.objs.size≠b:=Nat.ne_of_gt (Qb e);unfold sortedHeap;rw[Qd _ _ ne];refine Qa _ (Qa _ ?_);rw[Qd _ _ ne];exact Qa _ e
theorem zqr{h:Heap}{vs:List Value}{out:Array Value}: ∃n,(sortedHeap (h.push (seqObj "list" vs.toArray 0)) h.objs.size vs out).get? h.objs.size=some (seqObj "list" out n):=by
 have g:(h.push (seqObj "list" vs.toArray 0)).get? h.objs.size=some (seqObj "list" vs.toArray 0):=Qc _ rfl;obtain⟨e1,g1⟩: ∃e1,((h.push (seqObj "list" vs.toArray 0)).update h.objs.size (Obj.mapSeq λ_=>(#[]:Array Value))).get? h.objs.size=some (seqObj "list" #[] e1):=⟨_,get?_update_seq g λ_=> #[]⟩
 exact⟨_,get?_update_seq (Qa _ (Qa _ g1)) λ_=>out⟩
theorem zlu:bootBuiltins "set"=some (.type "set"):=by decide+kernel
def setO(w:World)(q:Addr)(ks:List Int):HO:= .ext (Se.SI q (Se.ledOf w) ks)
theorem zj3(hc:X.calm=true):yV X (.type "set") (λxs H Q=> ∃(p:Addr) (zs:List Int),xs= [.ref p]/\SqL X.K H p (zs.map V.int)/\zs.length<=1000/\ ∀q H',H q=none->zk H H'->H' q=some (setO X.w q (vv zs))->Q (.ref q) H'):=by
 intro pins s σ H xs us Q I r h;obtain⟨p,zs,rfl,hq,hz,q⟩:=h;obtain⟨u,rfl,ru⟩:=xc r;obtain rfl:u=Value.ref p:=ru;obtain⟨its,rv,pl,_⟩:=I.list hq;have hl:zs.length=its.length:=by rw[<-rv.length,Ja]
 refine Se.set_list (I.ok.hd hc) pl.isList (by simpa using kK rv) (by rw[Jn,<-hl];unfold scanBound;omega) λh' tk si k=> ?_;have hf:H s.heap.objs.size=none:=I.hok.fresh (Je _);rw[show its.toArray.size=zs.length by rw[Jn,hl]] at si;refine⟨.ref s.heap.objs.size,upd H s.heap.objs.size (setO X.w s.heap.objs.size (vv zs)),I.laid (t':=tk) (λb u e=>k b u (Qb e) e) (Je _) ⟨si,?_,λh1 h2 a b=>a.at b⟩,rfl,q _ _ hf (yP hf _) zF⟩;obtain⟨es,ep,t,ho,_⟩:=si.ex;exact⟨_,ho⟩
theorem zgU(hc:X.calm=true):yV X (.builtin "sorted") (λxs H Q=> ∃(p:Addr) (ks:List Int),xs= [.ref p]/\H p=some (setO X.w p ks)/\ks.length<=1000/\ ∀ws:List Int,ws.Perm ks->ws.Pairwise (· <= ·)->New H (.lst (ws.map V.int)) Q):=by
 intro pins s σ H xs us Q I r h;obtain⟨p,ks,rfl,hp,hz,q⟩:=h;obtain⟨u,rfl,ru⟩:=xc r;obtain rfl:u=Value.ref p:=ru;have si:Se.SI p (Se.ledOf X.w) ks s.heap:=(I.hok _ _ hp).1;refine Se.sorted_by (Se.collect_set (show X.A.in1.handled=none from I.ok.hd hc) si λvs ns h' d tk iv pm le k=>⟨?_,ns,iv,λout ns' a1 a2 a3=> ?_⟩)
 ·have:vs.length=ns.length:=IntsAre.length iv;rw[this,pm.length_eq];exact qB hz
 have hf:H h'.objs.size=none:=I.hok.fresh le;have ol:ns'.length<=sizeLine:=by rw[a2.length_eq,pm.length_eq];exact qB hz
 refine⟨.ref h'.objs.size,upd H h'.objs.size (.lst (ns'.map V.int)),I.laidD (t':=tk) (d:=d) (λb u e=> ?_) le ?_,rfl,(q ns' (a2.trans pm) a3).at hf⟩
 ·exact zoX (k b u e)
 ·obtain⟨n,at_⟩:=zqr (h:=h') (vs:=vs) (out:=out);exact⟨by rw[Ja];exact ol,out.toList,n,kL a1,by rw[Array.toArray_toList];exact at_⟩
theorem kW: ∀{as:List Addr} {its:List Value},zB (as.map V.ref) its->its=as.map Value.ref
 | [],_,h=>by cases h;rfl
 |a::as,_,h=>by
  cases h with
  |cons r t=>
   rw[kW t];cases r;rfl
def zqs(K:Fg)(neg:Bool):R2:=λx y H Q=> ∃(p:Addr) (as:List Addr) (n:Nat) (ds:List D) (d:D),y= .ref p/\SqL K H p (as.map V.ref)/\all2 (Dp K H n) ds (as.map V.ref)/\Dp K H n d x/\n<=50/\(∀e∈ds,yC n e d)/\Q (.bl (if neg then !(ds.any λe=>eqb n e d) else ds.any λe=>eqb n e d)) H
section
variable {X:Cx}
def inF(as:List Addr)(ds:List D)(n:Nat)(d:D):Value->Bool
 | .ref a=>(List.range as.length).any λi=>decide (as[i]? =some a) && eqb n (ds.getD i .non) d
 |_=>false
theorem kX{d:D}(hu: ∀i j:Nat,i<as.length->as[j]? =as[i]? ->ds.getD j .non=ds.getD i .non)(e:as[i]? =some a):inF as ds n d (.ref a)=eqb n (ds.getD i .non) d:=by
 have hi:=(Jc.mp e).1;show ((List.range as.length).any λi=>decide (as[i]? =some a) && eqb n (ds.getD i .non) d)=_;cases hb:eqb n (ds.getD i .non) d with
 |true=>exact List.any_eq_true.mpr ⟨i,List.mem_range.mpr hi,by rw[e,hb];simp⟩
 |false=>
  refine List.any_eq_false.mpr λj hj=> ?_;by_cases z:as[j]? =some a
  ·rw[hu i j hi (z.trans e.symm),hb];simp
  ·simp [z]
theorem zjh{d:D}(hl:ds.length=as.length)(hu: ∀i j:Nat,i<as.length->as[j]? =as[i]? ->ds.getD j .non=ds.getD i .non):(as.map Value.ref).any (inF as ds n d)=ds.any λe=>eqb n e d:=by
 rw[Bool.eq_iff_iff,List.any_eq_true,List.any_eq_true];refine⟨λ⟨v,hv,q⟩=> ?_,λ⟨e,he,q⟩=> ?_⟩
 ·obtain⟨a,ha,rfl⟩:=Jw.mp hv;obtain⟨i,hi⟩:=List.mem_iff_getElem?.mp ha;rw[kX hu hi] at q;have hi':i<ds.length:=by rw[hl];exact(Jc.mp hi).1
  rw[Jo,Jb hi'] at q;exact⟨_,List.getElem_mem hi',q⟩
 ·obtain⟨i,hi⟩:=List.mem_iff_getElem?.mp he;have hi':i<as.length:=by rw[<-hl];exact(Jc.mp hi).1
  refine⟨.ref as[i],Jw.mpr ⟨_,List.getElem_mem hi',rfl⟩,?_⟩;rw[kX hu (Jb hi'),Jo,hi];exact q
theorem zlv(I:Inv X pins σ H s){k:Nat}(hr:Room k X.A){d:D}{x:V}{v:Value}(h2:all2 (Dp X.K H n) ds (as.map V.ref))(hd:Dp X.K H n d x)(hn:n<=50)(hc: ∀e∈ds,yC n e d)(rx:zw x v)(hu: ∀i j:Nat,i<as.length->as[j]? =as[i]? ->ds.getD j .non=ds.getD i .non):
  ∀y,y∈(as.map Value.ref).toArray->SeqAt.EqAt X.A.in1 s y v (inF as ds n d y):=λy hy=>by
 have hy':y∈as.map Value.ref:=by simpa using hy
 obtain⟨a,ha,rfl⟩:=Jw.mp hy';obtain⟨i,hi⟩:=List.mem_iff_getElem?.mp ha;have hl:=qA h2;rw[Ja] at hl;have hi':i<ds.length:=by rw[hl];exact(Jc.mp hi).1
 have e1:ds[i]? =some ds[i]:=Jb hi';rw[kX hu hi,Jo,e1];have hu':=hr.units;exact j8 (v:=V.ref a) I (hc _ (List.getElem_mem hi')) (vp h2 e1 (by rw[Jh,hi];rfl)) hd rfl rx (by show X.A.units+1+n<cLine;omega)
theorem zoY(I:Inv X pins σ H s): ∀{n:Nat} {d e:D} {v:V},Dp X.K H n d v->Dp X.K H n e v->d=e:=by
 have al: ∀{g:D->V->Prop},(∀d e v,g d v->g e v->d=e)-> ∀{ds es:List D} {xs:List V},all2 g ds xs->all2 g es xs->ds=es:=by
  intro g hg ds;induction ds with
  |nil=>
   intro es xs h1 h2;cases xs with
   |nil=>cases es with
    |nil=>rfl
    |cons=>exact h2.elim
   |cons=>exact h1.elim
  |cons d r ih=>
   intro es xs h1 h2;cases xs with
   |nil=>exact h1.elim
   |cons x t=>cases es with
    |nil=>exact h2.elim
    |cons e r'=>rw[hg d e x h1.1 h2.1,ih h1.2 h2.2]
 have tl: ∀{a:Addr} {xs ys:List V},SqT X.K H a xs->SqL X.K H a ys->False:=λh1 h2=>by
  obtain⟨its,_,⟨o,e,c,_⟩,_⟩:=I.tuple h1;obtain⟨its',_,⟨o',n',e',c',_⟩,_⟩:=I.list h2;rw[e] at e';cases e';rw[c] at c';exact absurd c' 'd'
 intro n;induction n with
 |zero=>
  intro d e v h1 h2;cases d<;>cases e<;>simp only[Dp] at h1 h2<;>(try subst h1)<;>simp_all [wK]
 |succ n ih=>
  intro d e v h1 h2;cases d with
  |tup ds=>
   simp only[Dp] at h1;obtain⟨a,xs,rfl,hs,ha⟩:=h1;cases e with
   |tup es=>
    simp only[Dp] at h2;obtain⟨b,ys,eb,hs2,ha2⟩:=h2;cases eb;rw[I.tuple_inj hs2 hs] at ha2;rw[al (g:=Dp X.K H n) (λd e v=>ih) ha ha2]
   |lst es=>
    simp only[Dp] at h2;obtain⟨b,ys,eb,hs2,ha2⟩:=h2;cases eb;exact(tl hs hs2).elim
   |_=>simp only[Dp] at h2;cases h2
  |lst ds=>
   simp only[Dp] at h1;obtain⟨a,xs,rfl,hs,ha⟩:=h1;cases e with
   |lst es=>
    simp only[Dp] at h2;obtain⟨b,ys,eb,hs2,ha2⟩:=h2;cases eb;rw[I.list_inj hs2 hs] at ha2;rw[al (g:=Dp X.K H n) (λd e v=>ih) ha ha2]
   |tup es=>
    simp only[Dp] at h2;obtain⟨b,ys,eb,hs2,ha2⟩:=h2;cases eb;exact(tl hs2 hs).elim
   |_=>simp only[Dp] at h2;cases h2
  |_=>
   simp only[Dp] at h1;subst h1;cases e<;>simp only[Dp] at h2<;>simp_all [wK]
theorem znT(I:Inv X pins σ H s)(h2:all2 (Dp X.K H n) ds (as.map V.ref)): ∀i j:Nat,i<as.length->as[j]? =as[i]? ->ds.getD j .non=ds.getD i .non:=λi j hi e=>by
 have hl:=qA h2;rw[Ja] at hl;have hi':as[i]? =some as[i]:=Jb hi;have hj:=(Jc.mp (e.trans hi')).1;have e1:ds[i]? =some ds[i]:=Jb 'o';have e2:ds[j]? =some ds[j]:=Jb 'o';rw[Jo,Jo,e1,e2];exact zoY I (v:= .ref as[i]) (vp h2 e2 (by rw[Jh,e,hi'];rfl)) (vp h2 e1 (by rw[Jh,hi'];rfl))
theorem zoZ{k:Nat}(hr:Room k X.A):OpR X (compareOp .In) (zqs X.K false):=by
 intro pins s σ H x y v u Q I rx ry h;obtain⟨p,as,n,ds,d,rfl,hq,h2,hd,hn,hc,q⟩:=h;have hu:=znT I h2;cases ry;obtain⟨its,r,pl,hz⟩:=I.list hq;obtain rfl:=kW r;have hl:=qA h2;rw[Ja] at hl;refine SeqAt.in_listAt (inF as ds n d) pl.isList (zlv I hr h2 hd hn hc rx hu) ⟨.bl _,H,I,rfl,?_⟩;rw[show (as.map Value.ref).toArray.any (inF as ds n d)=(as.map Value.ref).any (inF as ds n d) by simp,zjh hl hu];exact q
theorem zj4{k:Nat}(hr:Room k X.A):OpR X (compareOp .NotIn) (zqs X.K true):=by
 intro pins s σ H x y v u Q I rx ry h;obtain⟨p,as,n,ds,d,rfl,hq,h2,hd,hn,hc,q⟩:=h;have hu:=znT I h2;cases ry;obtain⟨its,r,pl,hz⟩:=I.list hq;obtain rfl:=kW r;have hl:=qA h2;rw[Ja] at hl;refine SeqAt.notIn_listAt (inF as ds n d) pl.isList (zlv I hr h2 hd hn hc rx hu) ⟨.bl _,H,I,rfl,?_⟩;rw[show (as.map Value.ref).toArray.any (inF as ds n d)=(as.map Value.ref).any (inF as ds n d) by simp,zjh hl hu];exact q
end
theorem zj5{K:Fg}{l:Addr}{H1:Hp}{xs:List V}{σ0:St}{j k:Nat}{te:TE}{Q:VK}(Pv:Nat->List V->Prop)(hq:SqL K H1 a xs)(hl:H1 l=none)(hz:xs.length<sizeLine)(hsub: ∀v w:V,Sub σ0 ((σ0.set j (some v)).set k (some w)))(h0:Pv 0 [])
  (hs: ∀i x ys H (K1:VK),xs[i]? =some x->zk H1 H->Pv i ys->(∀v H4,zk H H4->Pv (i+1) (ys++ [v])->K1 v H4)->te ((σ0.set j (some (.int i))).set k (some x)) H K1)
  (hd: ∀ys H,zk H1 H->Pv xs.length ys->H l=some (.lst ys)->Q (.ref l) H):vT (Ite K a) σ0 (jH K 2 (wG (xI j) (wG (xI k) vH))) jZ te l Q H1:=by
 refine⟨λi m ys H=>i<=xs.length/\m=xs.length - i/\zk H1 H/\Pv i ys/\ys.length<=i/\H l=some (.lst ys),⟨xs.length,Jv _,'o',yP hl _,h0,Je _,zF⟩,?_⟩;rintro i m ys H ⟨hi,rfl,sm,pv,hx,e⟩;refine⟨e,Nat.lt_of_le_of_lt hx 'o',?_⟩;by_cases hlt:i<xs.length
 ·refine .inr ⟨⟨xs,xs[i],sm.seq hq,by simp [hlt]⟩,λv H' yl=> ?_⟩;obtain⟨pp,rfl,_,s2,x,ep,ex⟩:=yl;refine⟨pp, [.int i,x],rfl,SqT.of ep,rfl, .int i, [x],rfl,x, [],rfl,rfl,hsub _ _,?_⟩;refine hs i x ys H' _ (ex xs (sm.seq hq)) (sm.trans s2) pv λv H4 s4 p4=> ?_;exact⟨s4 _ _ (s2 _ _ e),xs.length - (i+1),'o',hlt,rfl,uD ((sm.trans s2).trans s4) hl,p4,by rw[Jj];simp only[Jp,List.length_nil];omega,zF⟩
 ·obtain rfl:i=xs.length:=by omega
  exact .inl ⟨⟨xs,sm.seq hq,Je _⟩,hd ys H sm pv e⟩
theorem zfn{w:World}(e:X.w=w){K:Fg}(eK:X.K=K)(hc:X.calm=true):yV X (.type "set") (λxs H Q=> ∃(p:Addr) (zs:List Int),xs= [.ref p]/\SqL K H p (zs.map V.int)/\zs.length<=1000/\ ∀q H',H q=none->zk H H'->H' q=some (setO w q (vv zs))->Q (.ref q) H'):=by
 subst e eK;exact zj3 hc
theorem zdD{w:World}(e:X.w=w)(hc:X.calm=true):yV X (.builtin "sorted") (λxs H Q=> ∃(p:Addr) (ks:List Int),xs= [.ref p]/\H p=some (setO w p ks)/\ks.length<=1000/\ ∀ws:List Int,ws.Perm ks->ws.Pairwise (· <= ·)->New H (.lst (ws.map V.int)) Q):=by
 subst e;exact zgU hc
theorem ww:vj (CXE X.prog X.w) X (λ_ _ _=>False):=λ_ _ _ _ _ _ _ h=>by
 obtain⟨_,_,_,_,_,z⟩:=h;exact z.elim
theorem zgg(hc:X.calm=true):yV X (.builtin "sum") (λxs H Q=> ∃(p:Addr) (ns:List Int),xs= [.ref p]/\SqT X.K H p (ns.map V.int)/\Q (.int ns.sum) H):=by
 intro pins s σ H xs us Q I r h;obtain⟨p,ns,rfl,hq,q⟩:=h;obtain⟨u,rfl,ru⟩:=xc r;obtain rfl:u=Value.ref p:=ru;obtain⟨its,rv,pl,hz⟩:=I.tuple hq;have hl:ns.length=its.length:=by rw[<-rv.length,Ja]
 obtain⟨o0,e0,_,_⟩:=id pl;have ne:p≠s.heap.objs.size:=JK (Qb e0);refine call_sum_walkG (wpAny_pyIter_tuple pl ?_);refine⟨s.heap.objs.size,_,_,_,_,_,λi=>ns.getD i 0,rfl,Walks.tuple (show X.A.in1.handled=none from I.ok.hd hc) s.heap.objs.size p ne its.toArray,⟨⟨_,Qc _ rfl,rfl,rfl⟩,?_⟩,?_,?_,λh' tk t' hk=> ?_⟩
 ·exact Heap.IsTuple.at pl λo e=>Qa _ e
 ·intro b hb;have hb':b=s.heap.objs.size\/b=p:=by simpa using hb
  show b<(s.heap.push _).objs.size;rw[Heap.size_push];rcases hb' with rfl|rfl
  ·exact Nat.lt_succ_self _
  ·exact Nat.lt_succ_of_lt (Qb e0)
 ·intro i v hv;have hi:its[i]? =some v:=by simpa using hv
  obtain⟨hlt,_⟩:=Jc.mp hi;have hb:(ns.map V.int)[i]? =some (.int ns[i]):=by rw[Jh,Jb 'o'];rfl
  obtain⟨u',e',t,rfl⟩:=rv.get hb;rw[hi] at e';cases e';have z:ns.getD i 0=ns[i]:=by rw[Jo,Jb 'o'];rfl
  exact⟨t,by show Value.int ns[i] t=Value.int (ns.getD i 0) t;rw[z]⟩
 ·have e:PySem.preSum (λi=>ns.getD i 0) its.toArray.size=ns.sum:=by rw[Jn,<-hl,j4 ns _ (Je _),JC]
  rw[e];refine⟨.int _,H,I.kept (t':=tk) λb o hb=>hk b o (λz=> ?_) (Qa _ hb),⟨_,rfl⟩,q⟩;have z':b=s.heap.objs.size:=by simpa using z
  exact absurd (z' ▸ Qb hb) (Nat.lt_irrefl _)
def wR(σ:St)(i:Nat)(Q:V->Prop):Prop:=match σ[i]? with|some (some v)=>Q v|_=>False
def qR(x:V)(Q:Int->Prop):Prop:=match x with| .int i=>Q i|_=>False
def blP(x:V)(Q:Bool->Prop):Prop:=match x with| .bl c=>Q c|_=>False
section
variable {σ:St} {i:Nat} {Q:V->Prop} {v x:V} {o:Option V}
theorem zgh:wR (some v::σ) 0 Q=Q v:=rfl
theorem zgi:wR (o::σ) (i+1) Q=wR σ i Q:=rfl
theorem u0:wR σ i Q= ∃v,σ[i]? =some (some v)/\Q v:=by
 unfold wR;cases h:σ[i]? with
 |none=>simp
 |some o=>cases o<;>simp
theorem zhK{i:Int}{Q:Int->Prop}:qR (.int i) Q=Q i:=rfl
theorem wx{Q:Int->Prop}:qR x Q= ∃i,x= .int i/\Q i:=by cases x<;>simp [qR]
theorem zlw{c:Bool}{Q:Bool->Prop}:blP (.bl c) Q=Q c:=rfl
theorem ub{Q:Bool->Prop}:blP x Q= ∃c,x= .bl c/\Q c:=by cases x<;>simp [blP]
end
theorem zqt{α β:Type}{f:α->β}{a:α}{l:List α}:List.map f (a::l)=f a::List.map f l:=rfl
theorem zqu{α β:Type}{f:α->β}:List.map f []= []:=rfl
def uc(i:Nat):TE:=λσ H Q=>wR σ i λv=>Q v H
def rJ(C:Int->Int->Prop)(g:Int->Int->V):R2:=λx y H Q=>qR x λi=>qR y λj=>C i j/\Q (g i j) H
def rJ0(g:Int->Int->V):R2:=λx y H Q=>qR x λi=>qR y λj=>Q (g i j) H
def rUJ(g:Int->V):V->Hp->VK->Prop:=λx H Q=>qR x λi=>Q (g i) H
def wS(t:TE):TT:=λσ H Q=>t σ H λx H'=>blP x λk=>Q k H'
def zlx(ta tb:TE):TE:=λσ H Q=>ta σ H λx H1=>blP x λc=>if c=true then tb σ H1 Q else Q (.bl false) H1
def znU(ta tb:TE):TE:=λσ H Q=>ta σ H λx H1=>blP x λc=>if c=true then Q (.bl true) H1 else tb σ H1 Q
def zly(ta:TE):TE:=λσ H Q=>ta σ H λx H1=>blP x λc=>Q (.bl (!c)) H1
def znV(i:Nat)(te:TE)(ti:TIp):TS:=λD σ H=>wR σ i λx=>te σ H λy H1=>ti x y H1 λz H2=>D.nx (σ.set i (some z)) H2
def ipJ(f:Int->Int->Int):TIp:=λx y H Q=>qR x λi=>qR y λj=>Q (.int (f i j)) H
def zlz(t:TE):TO:=λσ H Q=>t σ H λx H1=>qR x λi=>Q (some i) H1
theorem zlA:uc i=jD i:=by funext σ H Q;exact u0
theorem zqv{C:Int->Int->Prop}:rJ C g=rI C g:=by
 funext x y H Q;unfold rJ rI;simp only[wx,exists_and_left]
theorem zo0:rJ0 g=rI0 g:=by
 funext x y H Q;unfold rJ0 rI0;simp only[wx,exists_and_left]
theorem zo1{g:Int->V}:rUJ g=rU g:=by funext x H Q;exact wx
theorem zgj{t:TE}:wS t=xK t:=by funext σ H Q;unfold wS xK;simp only[ub]
theorem ziz{t:TE}:wS t=tB t:=zgj
theorem zlB{f:Int->Int->Int}:ipJ f=ipI f:=by
 funext x y H Q;unfold ipJ ipI;simp only[wx,exists_and_left]
section
variable {X:Cx} {a b c e:Expr} {ta tb tc te:TE} {t u:TT} {pos:PySem.Pos} {rs:List Expr}
theorem pvJ(i:Nat){pos:PySem.Pos}(hN:X.N[i]? =some x:=by rfl)(hv:Vis X.env.scope x:=by first|exact Or.inl rfl|exact Or.inr (Or.inl rfl)|exact Or.inr (Or.inr rfl))(hd:(x==("__debug__":Str))=false:=by decide)
  (hcd:(x==("__classdict__":Str))=false:=by decide):PE X (.Name x pos) (uc i):=by rw[zlA];exact zkg hN hv hd hcd
theorem OpR.j{f:Value->Value->Sem Value}{C:Int->Int->Prop}(h:OpR X f (rI C g)):OpR X f (rJ C g):=by rw[zqv];exact h
theorem OpR.j0{f:Value->Value->Sem Value}(h:OpR X f (rI0 g)):OpR X f (rJ0 g):=by rw[zo0];exact h
theorem zO:OpR X (binaryOp .Add) (rJ0 λi j=> .int (i+j)):=zoe.j0
theorem zX:OpR X (binaryOp .Sub) (rJ0 λi j=> .int (i - j)):=zof.j0
theorem qt:OpR X (binaryOp .Mult) (rJ vh λi j=> .int (i*j)):=zog.j
theorem yQ:OpR X (binaryOp .FloorDiv) (rJ ut λi j=> .int (i / j)):=zmC.j
theorem zK:OpR X (binaryOp .Mod) (rJ (λ_ j=>0<j) λi j=> .int (i % j)):=zoh.j
theorem kY:OpR X (binaryOp .Pow) (rJ wH λi j=> .int (i ^ j.toNat)):=zoi.j
theorem kZ:OpR X (binaryOp .Mult) (rJ (λi j=>vh i j\/(Sm i/\Sm j)) λi j=> .int (i*j)):=zmU.j
theorem yR:OpR X (binaryOp .FloorDiv) (rJ (λ_ j=>0<j/\Sm j) λi j=> .int (i / j)):=zkU.j
theorem zlC:OpR X (compareOp .Lt) (rJ0 λi j=> .bl (decide (i<j))):=qy.j0
theorem zlD:OpR X (compareOp .LtE) (rJ0 λi j=> .bl (decide (i<=j))):=jK.j0
theorem zlE:OpR X (compareOp .Gt) (rJ0 λi j=> .bl (decide (j<i))):=q5.j0
theorem zo2:OpR X (compareOp .GtE) (rJ0 λi j=> .bl (decide (j<=i))):=znG.j0
theorem psJ(i:Nat){pos':PySem.Pos}(hN:X.N.Nodup)(he:PE X e te)(hi:X.N[i]? =some x:=by rfl)(hx:Loc X.env.scope x:=by exact Or.inl rfl)(hs:swapsWith e (some (.Name x pos')) pos.line X.env=pure false:=by rfl)(hf:X.fn x=true\/X.env.scope.names.lookup x=some .local:=by first|exact .inl rfl|exact .inr rfl|assumption):
  PS X (.Assign [.Name x pos'] e pos) (vI te (xI i)):=zn8 hN hi hx he hs hf
theorem ixJ{r:R2}(hr:IxR X r)(ha:PE X a ta)(hb:PE X b tb)(hs:zi1 b:=by exact λ_ _=>rfl):PE X (.Subscript a b pos) (tOp r ta tb):=zp8 hr ha hb hs
theorem vw:UnR X (unaryOp .USub) (rUJ λi=> .int (-i)):=by rw[zo1];exact zoj
theorem ql{op:CmpOp}{r:R2}(ho:OpR X (compareOp op) r)(ha:PE X a ta)(hb:PE X b tb)(hm:behindInMarks op b=false):PT X (.Compare a [op] [b] pos) (wS (tOp r ta tb)):=by rw[zgj];exact uu ho ha hb hm
theorem zgW(h:PE X e te)(he: ∀whole,isTrue e X.env whole=(do let v<-whole;standAt e.pos;holding [v] (truthy v)):=by intro _;rfl):PT X e (wS te):=by rw[ziz];exact xH h he
theorem zji(ha:PE X a ta)(hb:PE X (.BoolOp .And (b::rs) pos) tb):PE X (.BoolOp .And (a::b::rs) pos) (zlx ta tb):=by
 have:=zn4 ha hb;unfold znB at this;simp only[<-ub] at this;exact this
theorem zo3(ha:PE X a ta)(hb:PE X (.BoolOp .Or (b::rs) pos) tb):PE X (.BoolOp .Or (a::b::rs) pos) (znU ta tb):=by
 have:=zpV ha hb;unfold zpU at this;simp only[<-ub] at this;exact this
theorem zm9(ha:PE X a ta):PE X (.UnaryOp .Not a pos) (zly ta):=by
 have:=zn5 (pos:=pos) ha;unfold znC at this;simp only[<-ub] at this;exact this
theorem u5{op:Operator}{ti:TIp}{pos':PySem.Pos}(hN:X.N.Nodup)(hi:X.N[i]? =some x)(hx:Loc X.env.scope x)(he:PE X e te)(ho:PIp X op ti)(hf:X.fn x=true\/X.env.scope.names.lookup x=some .local:=by first|exact .inl rfl|exact .inr rfl|assumption):
  PS X (.AugAssign (.Name x pos') op e pos) (znV i te ti):=by
 have:=zn9 (pos:=pos) (pos':=pos') hN hi hx he ho hf;unfold zpZ at this;simp only[<-u0] at this;exact this
theorem zjj:PIp X .Add (ipJ λi j=>i+j):=by rw[zlB];exact zoa
theorem zjk:PIp X .Sub (ipJ λi j=>i - j):=by rw[zlB];exact zob
theorem zhM(h:PE X e te):PO X (some e) (zlz te):=by
 have:=zmH h;unfold znJ at this;simp only[<-wx] at this;exact this
end
def xD(xs:List V)(P:Prop):Prop:=match xs with
 | []=>P
 | [_]=>P
 | [_,_]=>P
 | [_,_,_]=>P
 | [_,_,_,_]=>P
 | [_,_,_,_,_]=>P
 |_=>xs.length<=sizeLine/\P
def zlF(vs:List V)(Q:V->List V->Prop):Prop:=match vs with|v::r=>Q v r| []=>False
def zo4(vs:List V)(P:Prop):Prop:=match vs with| []=>P|_=>False
section
variable {P:Prop} {v a b c d e:V} {r:List V} {Q:V->List V->Prop}
theorem zo5:xD [] P=P:=rfl
theorem zo6:xD [a] P=P:=rfl
theorem zo7:xD [a,b] P=P:=rfl
theorem zo8:xD [a,b,c] P=P:=rfl
theorem zo9:xD [a,b,c,d] P=P:=rfl
theorem zpa:xD [a,b,c,d,e] P=P:=rfl
theorem u7{xs:List V}:xD xs P=(xs.length<=sizeLine/\P):=by
 have h: ∀n,n<=5->P=(n<=sizeLine/\P):=λn hn=>by rw[slT 'o',true_and]
 match xs with
 | []=>exact h 0 'd'
 | [_]=>exact h 1 'd'
 | [_,_]=>exact h 2 'd'
 | [_,_,_]=>exact h 3 'd'
 | [_,_,_,_]=>exact h 4 'd'
 | [_,_,_,_,_]=>exact h 5 'd'
 |_::_::_::_::_::_::_=>rfl
theorem zna:zlF (v::r) Q=Q v r:=rfl
theorem zhN{vs:List V}:zlF vs Q= ∃v r,vs=v::r/\Q v r:=by
 cases vs with
 |nil=>exact propext ⟨λh=>h.elim,λ⟨_,_,h,_⟩=>nomatch h⟩
 |cons v r=>exact propext ⟨λh=>⟨v,r,rfl,h⟩,λ⟨_,_,h,q⟩=>by cases h;exact q⟩
theorem zpb:zo4 [] P=P:=rfl
theorem zjl{vs:List V}:zo4 vs P=(vs= []/\P):=by
 cases vs with
 |nil=>exact propext ⟨λh=>⟨rfl,h⟩,λh=>h.2⟩
 |cons v r=>exact propext ⟨λh=>h.elim,λh=>nomatch h.1⟩
end
def u8(t:TA):TE:=λσ H Q=>t σ H λxs H1=>xD xs (New H1 (.tup xs) Q)
def u9(t:TA):TE:=λσ H Q=>t σ H λxs H1=>xD xs (New H1 (.lst xs) Q)
def ziA(t:TG)(u:TGs):TGs:=λvs σ H Q=>zlF vs λv r=>t v σ H λσ' H'=>u r σ' H' Q
def zlG:TGs:=λvs σ H Q=>zo4 vs (Q σ H)
def ja(C:Addr)(Ek:St->XK)(t:TA):TS:=λ_ σ H=>t σ H λvs H1=>xD vs (Ek σ (.ref C) none H1)
theorem zlH:u8=j9:=by funext t σ H Q;unfold u8 j9;simp only[u7]
theorem zlI:u9=ke:=by funext t σ H Q;unfold u9 ke;simp only[u7]
theorem zj6:ziA=wG:=by funext t u vs σ H Q;exact zhN
theorem zlJ:zlG=vH:=by funext vs σ H Q;exact zjl
theorem ziB:ja=jX:=by funext C Ek t D σ H;unfold ja jX;simp only[u7]
section
variable {X:Cx} {e:Expr} {es:List Expr} {t:TA} {pos p:PySem.Pos} {Ek:St->XK} {C:Addr} {x:Str}
theorem zN{x1}(h:PA X es t):PE X (.Tuple es x1 pos) (u8 t):=by rw[zlH];exact zmV h
theorem zY(h:PA X es t):PE X (.List es pos) (u9 t):=by rw[zlI];exact zmW h
theorem yF:PGs X [] zlG:=by rw[zlJ];exact qT
theorem zH{t:TG}{u:TGs}(h1:PG X e t)(h2:PGs X es u)
  (hs:(assignEach (e::es) X.env).map (·.2)=assign e X.env::(assignEach es X.env).map (·.2):=by rfl):PGs X (e::es) (ziA t u):=by rw[zj6];exact yt h1 h2 hs
theorem wy(L:LvR X Ek)(O:Exc X.K C)(hc:X.calm=true)(hg:Gl X x)(hm:X.mg x=some (.ref C))(ha:PA X (e::es) t)(hdb:(x==("__debug__":Str))=false:=by decide)
  (he:starEach (e::es) X.env=(false,eval e X.env)::starEach es X.env:=by rfl) (hpl:(backTo pos (starEach es X.env)).any (·.1)=false:=by rfl) {rpos:PySem.Pos}:
  PS X (.Raise (some (.Call (.Name x p) (e::es) [] pos)) none rpos) (ja C Ek t):=by rw[ziB];exact zkO L O hc hg hm ha hdb he hpl
end
abbrev TQ:=St->Hp->((p:Prop)->Decidable p->Hp->Prop)->Prop
def asT(t:TQ):TT:=λσ H Q=>t σ H λp d H'=>Q (@decide p d) H'
def PQ(X:Cx)(e:Expr)(t:TQ):Prop:=PT X e (asT t)
def tQ(t:TT):TQ:=λσ H K=>t σ H λb H'=>K (b=true) (instDecidableEqBool b true) H'
def tQN(t:TT):TQ:=λσ H K=>t σ H λb H'=>K (b=false) (instDecidableEqBool b false) H'
def jb(P:Int->Int->Prop)(d: ∀i j,Decidable (P i j))(ta tb:TE):TQ:=λσ H K=>ta σ H λx H1=>tb σ H1 λy H2=>qR x λi=>qR y λj=>K (P i j) (d i j) H2
def jc(t u:TQ):TQ:=λσ H K=>t σ H λp d H1=> @ite Prop p d (u σ H1 K) (K False instDecidableFalse H1)
def jd(t u:TQ):TQ:=λσ H K=>t σ H λp d H1=> @ite Prop p d (K True instDecidableTrue H1) (u σ H1 K)
def je(c:TQ)(t u:TS):TS:=λD σ H=>c σ H λp d H1=> @ite Prop p d (t D σ H1) (u D σ H1)
def jf(c:TQ)(ta tb:TE):TE:=λσ H Q=>c σ H λp d H1=> @ite Prop p d (ta σ H1 Q) (tb σ H1 Q)
def eqK(x y:V)(K:(p:Prop)->Decidable p->Prop):Prop:=match x,y with
 | .int i, .int j=>K (i=j) (Int.instDecidableEq i j)
 | .bl i, .bl j=>K (i=j) (instDecidableEqBool i j)
 | .str i, .str j=>K (i=j) (instDecidableEqStr i j)
 | .non, .non=>K True instDecidableTrue
 | .non, .int _=>K False instDecidableFalse
 | .int _, .non=>K False instDecidableFalse
 | .non, .str _=>K False instDecidableFalse
 | .str _, .non=>K False instDecidableFalse
 |x,y=>qZ x y=true/\K (x=y) (instDecidableEqV x y)
def neK(x y:V)(K:(p:Prop)->Decidable p->Prop):Prop:=match x,y with
 | .int i, .int j=>K (¬i=j) (@instDecidableNot _ (Int.instDecidableEq i j))
 | .bl i, .bl j=>K (¬i=j) (@instDecidableNot _ (instDecidableEqBool i j))
 | .str i, .str j=>K (¬i=j) (@instDecidableNot _ (instDecidableEqStr i j))
 | .non, .non=>K False instDecidableFalse
 | .non, .int _=>K True instDecidableTrue
 | .int _, .non=>K True instDecidableTrue
 | .non, .str _=>K True instDecidableTrue
 | .str _, .non=>K True instDecidableTrue
 |x,y=>qZ x y=true/\K (¬x=y) (@instDecidableNot _ (instDecidableEqV x y))
def jg(ta tb:TE):TQ:=λσ H K=>ta σ H λx H1=>tb σ H1 λy H2=>eqK x y λp d=>K p d H2
def jh(ta tb:TE):TQ:=λσ H K=>ta σ H λx H1=>tb σ H1 λy H2=>neK x y λp d=>K p d H2
section
variable {A B:Prop} {K:(p:Prop)->Decidable p->Prop}
theorem zqw: @ite Prop False instDecidableFalse A B=B:=rfl
theorem zqx: @ite Prop True instDecidableTrue A B=A:=rfl
theorem zpc{i j:Int}:eqK (.int i) (.int j) K=K (i=j) (Int.instDecidableEq i j):=rfl
theorem zpd{i j:Bool}:eqK (.bl i) (.bl j) K=K (i=j) (instDecidableEqBool i j):=rfl
theorem zpe{i j:Str}:eqK (.str i) (.str j) K=K (i=j) (instDecidableEqStr i j):=rfl
theorem zpf:eqK .non .non K=K True instDecidableTrue:=rfl
theorem zpg{j:Int}:eqK .non (.int j) K=K False instDecidableFalse:=rfl
theorem zph{j:Int}:eqK (.int j) .non K=K False instDecidableFalse:=rfl
theorem zpi{j:Str}:eqK .non (.str j) K=K False instDecidableFalse:=rfl
theorem zpj{j:Str}:eqK (.str j) .non K=K False instDecidableFalse:=rfl
theorem zpk{i j:Int}:neK (.int i) (.int j) K=K (¬i=j) (@instDecidableNot _ (Int.instDecidableEq i j)):=rfl
theorem zpl{i j:Bool}:neK (.bl i) (.bl j) K=K (¬i=j) (@instDecidableNot _ (instDecidableEqBool i j)):=rfl
theorem zpm{i j:Str}:neK (.str i) (.str j) K=K (¬i=j) (@instDecidableNot _ (instDecidableEqStr i j)):=rfl
theorem zpn:neK .non .non K=K False instDecidableFalse:=rfl
theorem zpo{j:Int}:neK .non (.int j) K=K True instDecidableTrue:=rfl
theorem zpp{j:Int}:neK (.int j) .non K=K True instDecidableTrue:=rfl
theorem zpq{j:Str}:neK .non (.str j) K=K True instDecidableTrue:=rfl
theorem zpr{j:Str}:neK (.str j) .non K=K True instDecidableTrue:=rfl
theorem wT{p q:Prop}{d:Decidable p}{d':Decidable q}(h:p↔q):K p d=K q d':=by
 obtain rfl:p=q:=propext h;rw[Subsingleton.elim d d']
theorem zlK{x y:V}:eqK x y K=(qZ x y=true/\K (x=y) (instDecidableEqV x y)):=by
 unfold eqK;split<;>first
  |rfl
  |(rw[wT (K:=K) (d':=instDecidableEqV (V.int _) (V.int _)) (by rw[V.int.injEq])];exact(propext ⟨λh=>⟨rfl,h⟩,λh=>h.2⟩))
  |(rw[wT (K:=K) (d':=instDecidableEqV (V.bl _) (V.bl _)) (by rw[V.bl.injEq])];exact(propext ⟨λh=>⟨rfl,h⟩,λh=>h.2⟩))
  |(rw[wT (K:=K) (d':=instDecidableEqV (V.str _) (V.str _)) (by rw[V.str.injEq])];exact(propext ⟨λh=>⟨rfl,h⟩,λh=>h.2⟩))
  |exact propext ⟨λh=>⟨rfl,(wT (K:=K) (by simp)).mp h⟩,λh=>(wT (K:=K) (by simp)).mp h.2⟩
theorem zlL{x y:V}:neK x y K=(qZ x y=true/\K (¬x=y) (@instDecidableNot _ (instDecidableEqV x y))):=by
 unfold neK;split<;>first
  |rfl
  |exact propext ⟨λh=>⟨rfl,(wT (K:=K) (by simp)).mp h⟩,λh=>(wT (K:=K) (by simp)).mp h.2⟩
end
section
variable {X:Cx} {a b c e:Expr} {ta tb tc te:TE} {t u:TQ} {pos:PySem.Pos} {rs:List Expr}
theorem zlM(b:Bool): @decide (b=true) (instDecidableEqBool b true)=b:=by cases b<;>rfl
theorem qL{t:TT}(h:PT X e t):PQ X e (tQ t):=by
 have e1:asT (tQ t)=t:=by
  funext σ H Q;unfold asT tQ;simp only[zlM]
 unfold PQ;rw[e1];exact h
theorem jj{t:TT}(h:PT X e t):PQ X (.UnaryOp .Not e pos) (tQN t):=by
 have e1:asT (tQN t)=um t:=by
  funext σ H Q;unfold asT tQN um;have d: ∀b:Bool, @decide (b=false) (instDecidableEqBool b false)= !b:=λb=>by cases b<;>rfl
  simp only[d]
 unfold PQ;rw[e1];exact zkj h
theorem yp{op:CmpOp}{P:Int->Int->Prop}{d: ∀i j,Decidable (P i j)}(ho:OpR X (compareOp op) (rI0 λi j=> .bl (@decide (P i j) (d i j))))(ha:PE X a ta)(hb:PE X b tb)(hm:behindInMarks op b=false:=by exact yu _):PQ X (.Compare a [op] [b] pos) (jb P d ta tb):=by
 have e1:asT (jb P d ta tb)=xK (tOp (rI0 λi j=> .bl (@decide (P i j) (d i j))) ta tb):=by
  funext σ H Q;unfold asT jb xK tOp rI0;simp only[wx,exists_and_left,V.bl.injEq,exists_eq_left']
 unfold PQ;rw[e1];exact uu ho ha hb hm
theorem jk{p:Prop}{d:Decidable p}{A B:Prop}:(if @decide p d=true then A else B)= @ite Prop p d A B:=by
 cases d<;>rfl
theorem qe(ha:PE X a ta)(hb:PE X b tb)(hm:behindInMarks .Eq b=false:=by exact yu _):PQ X (.Compare a [.Eq] [b] pos) (jg ta tb):=by
 have e1:asT (jg ta tb)=xK (tOp rEq ta tb):=by
  funext σ H Q;unfold asT jg xK tOp rEq;simp only[zlK,V.bl.injEq,exists_eq_left']
 unfold PQ;rw[e1];exact uu xr ha hb hm
theorem zqy(ha:PE X a ta)(hb:PE X b tb)(hm:behindInMarks .NotEq b=false:=by exact yu _):PQ X (.Compare a [.NotEq] [b] pos) (jh ta tb):=by
 have e1:asT (jh ta tb)=xK (tOp rNe ta tb):=by
  funext σ H Q;unfold asT jh xK tOp rNe;simp only[zlL,V.bl.injEq,exists_eq_left',decide_not]
 unfold PQ;rw[e1];exact uu znF ha hb hm
theorem znf:asT (jc t u)=jE (asT t) (asT u):=by
 funext σ H Q;unfold asT jc jE;simp only[jk];rfl
theorem zps:asT (jd t u)=tOr (asT t) (asT u):=by
 funext σ H Q;unfold asT jd tOr;simp only[jk];rfl
def PWQ(X:Cx)(e:Expr)(t:TQ):Prop:=PW X e (asT t)
theorem PWQ.pq(h:PWQ X e t):PQ X e t:=PW.pt h
theorem xQ(ha:PQ X a t):PWQ X (.BoolOp .And [a] pos) t:=zmz ha
theorem wz(ha:PQ X a t):PWQ X (.BoolOp .Or [a] pos) t:=zki ha
theorem xR(ha:PQ X a t)(hb:PWQ X (.BoolOp .And (b::rs) pos) u):PWQ X (.BoolOp .And (a::b::rs) pos) (jc t u):=by unfold PWQ;rw[znf];exact zn3 ha hb
theorem wB(ha:PQ X a t)(hb:PWQ X (.BoolOp .Or (b::rs) pos) u):PWQ X (.BoolOp .Or (a::b::rs) pos) (jd t u):=by unfold PWQ;rw[zps];exact znA ha hb
theorem zP{a b:List Stmt}{t u:TS}{tc:TQ}(hc:PQ X c tc)(ha:PSs X a t)(hb:PSs X b u):PS X (.If c a b pos) (je tc t u):=by
 have e1:je tc t u=jG (asT tc) t u:=by
  funext D σ H;unfold je jG asT;simp only[jk]
 rw[e1];exact zpY hc ha hb
theorem zj7{tc:TQ}(hc:PQ X c tc)(ha:PE X a ta)(hb:PE X b tb):PE X (.IfExp c a b pos) (jf tc ta tb):=by
 have e1:jf tc ta tb=tIf (asT tc) ta tb:=by
  funext σ H Q;unfold jf tIf asT;simp only[jk]
 rw[e1];exact zkk hc ha hb
end
structure DF (K:Fg) (mg:Str->Option Value) (x:Str) (ps:List Str) (s:Stmt) (a:Addr) (d:FuncData):Prop where
 mg:mg x=some (.ref a)
 fn:Fun K x x s a d
 b:qc K d ps []
theorem peD{e:Expr}{pos:PySem.Pos}{Ek:St->XK}{k j:Nat}{f:Addr}{fd:FuncData}{ps:List Str}{sp:Sp}{es:List Expr}{t:TA}{p:PySem.Pos}{s:Stmt}(L:Lv X Ek)(F:FnOk X.prog X.w X.K X.mg X.base (CXE X.prog X.w) k f fd ps sp)(hr:Room j X.A)(D:DF X.K X.mg x ps s f fd)
  (ha:PA X (e::es) t) (hj:k<=j:=by decide) (hg:Gl X x:=by rfl) (hdb:(x==("__debug__":Str))=false:=by decide) (he:starEach (e::es) X.env=(false,eval e X.env)::starEach es X.env:=by rfl) (hpl:(backTo pos (starEach es X.env)).any (·.1)=false:=by rfl):
  PE X (.Call (.Name x p) (e::es) [] pos) (jW sp [] Ek t):=zkN L F (hr.mono hj) hg D.mg D.fn.kp D.b .nil ha hdb he hpl
def FA(K:Fg)(x:Str)(s:Stmt):Prop:= ∃(f:Addr) (d:FuncData),PySem.W.nsIn K mainGlobals x=some (some (.ref f))/\Fun K x x s f d
def FM(K:Fg)(C:Addr)(x q:Str)(s:Stmt):Prop:= ∃(f:Addr) (d:FuncData),Meth K C x f/\Fun K x q s f d
section
variable {K:Fg} {x q:Str} {s:Stmt} {C fa:Addr} {od an:Option Addr} {sl:Array (Option Value)} {oc kV dc pm cd ct:Value}
theorem FA.mk(a:PySem.W.nsIn K mainGlobals x=some (some (.ref fa)))(l:K.lookup fa=some ⟨oc,od, .func (PySem.W.fnOf x x (wI s) (xX s) (zE s) .none kV dc pm an cd ct),sl⟩)(c:PySem.W.codeIn K cd x=true)(k:PySem.W.keepIn K (.ref fa)=true):FA K x s:=⟨fa,_,a,zkM l c k⟩
noncomputable def FA.f(h:FA K x s):Addr:=h.choose
noncomputable def FA.d(h:FA K x s):FuncData:=h.choose_spec.choose
theorem FA.fn(h:FA K x s):Fun K x x s h.f h.d:=h.choose_spec.choose_spec.2
theorem FA.mg{b:Heap}{mg:Str->Option Value}(h:FA K x s)(X:K.In b)(G:b.Ns mainGlobals mg):mg x=some (.ref h.f):=PySem.W.mg_of X G h.choose_spec.choose_spec.1
theorem FA.df{b:Heap}{mg:Str->Option Value}{ps:List Str}(h:FA K x s)(X:K.In b)(G:b.Ns mainGlobals mg)(bs:qc K h.d ps []):DF K mg x ps s h.f h.d:=⟨h.mg X G,h.fn,bs⟩
theorem FM.mk(a:PySem.W.findIn K (.ref C) x=some (some (.ref fa)))(l:K.lookup fa=some ⟨oc,od, .func (PySem.W.fnOf x q (wI s) (xX s) (zE s) .none kV dc pm an cd ct),sl⟩)(c:PySem.W.codeIn K cd q=true)(k:PySem.W.keepIn K (.ref fa)=true)(i:PySem.W.isFn K (.ref fa)=true):FM K C x q s:=⟨fa,_,⟨a,i,k⟩,zkM l c k⟩
noncomputable def FM.f(h:FM K C x q s):Addr:=h.choose
noncomputable def FM.d(h:FM K C x q s):FuncData:=h.choose_spec.choose
theorem FM.fn(h:FM K C x q s):Fun K x q s h.f h.d:=h.choose_spec.choose_spec.2
theorem FM.me(h:FM K C x q s):Meth K C x h.f:=h.choose_spec.choose_spec.1
end
end L2
namespace Cal
variable{y m b h r:Int}
def lp(y:Int):Int:=if y % 4=0/\(y % 100≠0\/y % 400=0) then 1 else 0
def dim(y m:Int):Int:=if m=2 then 28+lp y else if m=4\/m=6\/m=9\/m=11 then 30 else 31
def ahead(y:Int):Int:=(y - 1)*365+(y - 1) / 4 - (y - 1) / 100+(y - 1) / 400
def cum(y m:Int):Int:=
 if m<=1 then 0 else if m=2 then 31 else if m=3 then 59+lp y else if m=4 then 90+lp y else if m=5 then 120+lp y
 else if m=6 then 151+lp y else if m=7 then 181+lp y else if m=8 then 212+lp y else if m=9 then 243+lp y
 else if m=10 then 273+lp y else if m=11 then 304+lp y else if m=12 then 334+lp y else 365+lp y
def num(y m d:Int):Int:=ahead y+cum y m+d - 1
def Valid(y m d:Int):Prop:=1<=y/\y<=9999/\1<=m/\m<=12/\1<=d/\d<=dim y m
theorem lp_01(y:Int):0<=lp y/\lp y<=1:=by unfold lp;split<;>decide
theorem zfq(y m:Int):28<=dim y m/\dim y m<=31:=by
 have:=lp_01 y;unfold dim;repeat' split
 all_goals omega
theorem cum_one(y:Int):cum y 1=0:=rfl
theorem cum_succ(h1:1<=m)(h2:m<=12):cum y (m+1)=cum y m+dim y m:=by
 obtain⟨k,rfl⟩:=Int.eq_ofNat_of_zero_le (Int.le_trans (by decide:(0:Int)<=1) h1);match k,h1,h2 with
 |0,h,_=>exact absurd h 'd'
 |1,_,_=>exact rfl
 |2,_,_=>exact Int.add_assoc 31 28 (lp y)
 |3,_,_=>exact(Int.add_right_comm 59 (lp y) 31).symm
 |4,_,_=>exact(Int.add_right_comm 90 (lp y) 30).symm
 |5,_,_=>exact(Int.add_right_comm 120 (lp y) 31).symm
 |6,_,_=>exact(Int.add_right_comm 151 (lp y) 30).symm
 |7,_,_=>exact(Int.add_right_comm 181 (lp y) 31).symm
 |8,_,_=>exact(Int.add_right_comm 212 (lp y) 31).symm
 |9,_,_=>exact(Int.add_right_comm 243 (lp y) 30).symm
 |10,_,_=>exact(Int.add_right_comm 273 (lp y) 31).symm
 |11,_,_=>exact(Int.add_right_comm 304 (lp y) 30).symm
 |12,_,_=>exact(Int.add_right_comm 334 (lp y) 31).symm
 |k+13,_,h=>exact absurd h 'o'
theorem cum_13(y:Int):cum y 13=365+lp y:=by simp [cum]
theorem ziC(y m:Int):0<=cum y m:=by
 have l:=(lp_01 y).1;have q: ∀a:Int,0<=a->0<=a+lp y:=λa h=>Int.add_nonneg h l;have z: ∀{p:Prop} [Decidable p] {a b:Int},0<=a->0<=b->0<=if p then a else b:=fun {p} _ {a b} g h=>by split<;>assumption
 exact z 'd' (z 'd' (z (q _ 'd') (z (q _ 'd') (z (q _ 'd') (z (q _ 'd') (z (q _ 'd') (z (q _ 'd') (z (q _ 'd') (z (q _ 'd') (z (q _ 'd') (z (q _ 'd') (q _ 'd'))))))))))))
theorem q4(x:Int):(x+1) / 4=x / 4+if (x+1) % 4=0 then 1 else 0:=by split<;>omega
theorem zqY(x:Int):(x+1) / 100=x / 100+if (x+1) % 100=0 then 1 else 0:=by split<;>omega
theorem zqZ(x:Int):(x+1) / 400=x / 400+if (x+1) % 400=0 then 1 else 0:=by split<;>omega
theorem zpt{x a:Int}(k:Int)(e:b=a*k)(h:x % b=0):x % a=0:=by
 subst e;rw[<-Int.emod_emod_of_dvd x (Int.dvd_mul_right a k),h,Int.zero_emod]
theorem zqz(y:Int):lp y=(if y % 4=0 then 1 else 0) - (if y % 100=0 then 1 else 0)+(if y % 400=0 then 1 else 0):=by
 unfold lp;by_cases c:y % 4=0
 ·by_cases d:y % 100=0
  ·by_cases e:y % 400=0
   ·rw[Jg ⟨c, .inr e⟩,Jg c,Jg d,Jg e];rfl
   ·rw[Jf (λh=>h.2.elim (λh=>h d) e),Jg c,Jg d,Jf e];rfl
  ·have e:y % 400≠0:=λh=>d (zpt 4 rfl h);rw[Jg ⟨c, .inl d⟩,Jg c,Jf d,Jf e];rfl
 ·have d:y % 100≠0:=λh=>c (zpt 25 rfl h);have e:y % 400≠0:=λh=>c (zpt 100 rfl h);rw[Jf (λh=>c h.1),Jf c,Jf d,Jf e];rfl
theorem ziD(y:Int):ahead (y+1)=ahead y+365+lp y:=by
 obtain⟨x,rfl⟩: ∃x,y=x+1:=⟨y - 1,(Int.sub_add_cancel y 1).symm⟩
 rw[zqz];unfold ahead;rw[Int.add_sub_cancel,Int.add_sub_cancel,q4,zqY,zqZ,Int.add_mul,Int.one_mul];generalize x*365=p,x / 4=a,x / 100=b,x / 400=c,ite ((x+1) % 4=0) (1:Int) 0=d,ite ((x+1) % 100=0) (1:Int) 0=e,ite ((x+1) % 400=0) (1:Int) 0=f;clear x;omega
theorem jm{z:Int}(h:y<z):ahead y+365+lp y<=ahead z:=by
 rw[<-ziD];unfold ahead;omega
theorem zlN{y m:Int}(h1:1<=m): ∀j:Nat,m+1+(j:Int)<=13->cum y (m+1)<=cum y (m+1+(j:Int))
 |0,_=>Int.le_of_eq (by rw[show m+1+((0:Nat):Int)=m+1 from JJ _])
 |j+1,h=>by
  have a:=zlN (y:=y) h1 j 'o';have b:=cum_succ (y:=y) (m:=m+1+(j:Int)) 'o' 'o';have c:=(zfq y (m+1+(j:Int))).1;rw[show m+1+((j+1:Nat):Int)=m+1+(j:Int)+1 by omega,b];omega
theorem jo{k:Int}(h1:1<=m)(h:m<k)(h2:k<=13):cum y m+dim y m<=cum y k:=by
 rw[<-cum_succ h1 'o']
 have:=zlN (y:=y) h1 (k - (m+1)).toNat 'o';rw[show m+1+((k - (m+1)).toNat:Int)=k by omega] at this;exact this
theorem vx{d:Int}(h:Valid y m d):0<=cum y m+d - 1/\cum y m+d<=365+lp y:=by
 obtain⟨_,_,h3,h4,h5,h6⟩:=h;have a:=ziC y m;have b:=jo (y:=y) h3 (show m<13 by omega) 'o';rw[cum_13] at b;omega
theorem num_inj{d z k e:Int}(h:Valid y m d)(g:Valid z k e)(q:num y m d=num z k e):y=z/\m=k/\d=e:=by
 have a:=vx h;have b:=vx g;obtain⟨_,_,h3,h4,h5,h6⟩:=h;obtain⟨_,_,g3,g4,g5,g6⟩:=g;unfold num at q;have yz:y=z:=by
  rcases Int.lt_trichotomy y z with c|c|c
  ·have:=jm c;omega
  ·exact c
  ·have:=jm c;omega
 subst yz;have mk:m=k:=by
  rcases Int.lt_trichotomy m k with c|c|c
  ·have:=jo (y:=y) h3 c 'o';omega
  ·exact c
  ·have:=jo (y:=y) g3 c 'o';omega
 subst mk;exact⟨rfl,rfl,'o'⟩
theorem num_range{d:Int}(h:Valid y m d):0<=num y m d/\num y m d<=3652058:=by
 have a:=vx h;obtain⟨h1,h2,_⟩:=h;have e1:ahead 1=0:=by decide
 have e2:ahead 10000=3652059:=by decide
 have b:=jm (y:=y) (z:=10000) 'o';have c:ahead 1<=ahead y:=by unfold ahead;omega
 unfold num;omega
theorem zqA{R f:Int}(f0:0<=f)(f1:f<24):lp (R*400+h*100+f*4+3+1)=1:=by
 unfold lp;rw[Jg];exact⟨'o',Or.inl 'o'⟩
theorem zpu(R:Int):lp (R*400+3*100+24*4+3+1)=1:=by
 unfold lp;rw[Jg];exact⟨'o',Or.inr 'o'⟩
def yearOf(n:Int):Int:=
 let r:=n % 146097
 let h:=min (r / 36524) 3
 let r2:=r - h*36524
 let c:=r2 % 1461
 n / 146097*400+h*100+r2 / 1461*4+min (c / 365) 3+1
theorem zq0{a:Int}(a0:0<=a)(a1:a<146097)(eh:h=min (a / 36524) 3)(eb:b=a - h*36524):0<=h/\h<=3/\0<=b/\b<=36524/\(h<3->b<36524):=by
 have q:=Int.emod_add_mul_ediv a 36524;have r:=JN a (by decide:(36524:Int)≠0);have t:=JL a (by decide:(0:Int)<36524);generalize a / 36524=u at*;generalize a % 36524=v at*;by_cases c:u<=3
 ·rw[Int.min_eq_left c] at eh;subst eh;refine⟨'o',c,'o','o',λ_=>by omega⟩
 ·rw[Int.min_eq_right 'o'] at eh;subst eh;refine⟨'d','d','o','o',λh=>absurd h 'd'⟩
theorem zq1{f c:Int}(b0:0<=b)(b1:b<=36524)(ef:f=b / 1461)(ec:c=b % 1461):0<=f/\f<=24/\0<=c/\c<1461/\b=1461*f+c:=by
 have q:=Int.emod_add_mul_ediv b 1461;have r:=JN b (by decide:(1461:Int)≠0);have t:=JL b (by decide:(0:Int)<1461);rw[<-ef,<-ec] at q;rw[<-ec] at r t;clear ef ec;refine⟨'o','o',r,t,'o'⟩
theorem zq2{c o:Int}(c0:0<=c)(eo:o=min (c / 365) 3):0<=o/\o<=3/\365*o<=c/\(o<3->c<365*o+365):=by
 have q:=Int.emod_add_mul_ediv c 365;have r:=JN c (by decide:(365:Int)≠0);have t:=JL c (by decide:(0:Int)<365);generalize c / 365=u at*;generalize c % 365=v at*;by_cases d:u<=3
 ·rw[Int.min_eq_left d] at eo;subst eo;refine⟨'o',d,'o',λ_=>by omega⟩
 ·rw[Int.min_eq_right 'o'] at eo;subst eo;refine⟨'d','d','o',λh=>absurd h 'd'⟩
theorem zlO{x d q:Int}(e:x=r+d*q)(r0:0<=r)(r1:r<d):x / d=q:=by
 rw[e,Int.add_mul_ediv_left _ _ 'o',Int.ediv_eq_zero_of_lt r0 r1,JS]
theorem zng{R f o:Int}(h0:0<=h)(h3:h<=3)(f0:0<=f)(f1:f<=24)(o0:0<=o)(o3:o<=3):ahead (R*400+h*100+f*4+o+1)=146097*R+36524*h+1461*f+365*o:=by
 unfold ahead;rw[Int.add_sub_cancel,zlO (d:=4) (q:=100*R+25*h+f) (r:=o) (by clear h0 h3 f0 f1 o0 o3;omega) o0 'o',
  zlO (d:=100) (q:=4*R+h) (r:=f*4+o) (by clear h0 h3 f0 f1 o0 o3;omega) (by clear h0 h3;omega) (by clear h0 h3;omega),
  zlO (d:=400) (q:=R) (r:=h*100+f*4+o) (by clear h0 h3 f0 f1 o0 o3;omega) 'o' 'o']
 clear h0 h3 f0 f1 o0 o3;omega
theorem zqB(R h f:Int):146097*R+36524*h+1461*f+1460<146097*R+36524*h+1461*f+365*3+365+1:=by omega
theorem yearOf_spec{n:Int}(h0:0<=n)(h1:n<=3652058):1<=yearOf n/\yearOf n<=9999/\ahead (yearOf n)<=n/\n<ahead (yearOf n)+365+lp (yearOf n):=by
 have a0:=JN n (by decide:(146097:Int)≠0);have a1:=JL n (by decide:(0:Int)<146097);have en:=Int.emod_add_mul_ediv n 146097;obtain⟨H,eh⟩: ∃h,h=min (n % 146097 / 36524) 3:=⟨_,rfl⟩
 obtain⟨b,eb⟩: ∃b,b=n % 146097 - H*36524:=⟨_,rfl⟩
 obtain⟨o,eo⟩: ∃o,o=min (b % 1461 / 365) 3:=⟨_,rfl⟩
 have ey:yearOf n=n / 146097*400+H*100+b / 1461*4+o+1:=by
  rw[eo,eb,eh];rfl
 obtain⟨p1,p2,p3,p4,p5⟩:=zq0 a0 a1 eh eb;obtain⟨r1,r2,r3,r4,r5⟩:=zq1 p3 p4 rfl rfl;obtain⟨t1,t2,t3,t4⟩:=zq2 r3 eo;rw[ey,zng p1 p2 r1 r2 t1 t2];clear ey eo eh;generalize n / 146097=R at*;generalize n % 146097=a at*;generalize b / 1461=f at*;generalize b % 1461=c at*;have R0:0<=R:=by clear p1 p2 p3 p4 p5 r1 r2 r3 r4 r5 t1 t2 t3 t4 eb;omega
 have R1:R<=24:=by clear p1 p2 p3 p4 p5 r1 r2 r3 r4 r5 t1 t2 t3 t4 eb;omega
 have e2:n=146097*R+36524*H+1461*f+c:=by clear p1 p2 p3 p4 p5 r1 r2 r3 r4 t1 t2 t3 t4;omega
 clear h0 a0 a1 en eb p3 p4;have l:=(lp_01 (R*400+H*100+f*4+o+1)).1;refine⟨by clear h1 e2 t3 t4 r5 p5 l R1 p2 r2 t2 r3 r4;omega,by clear R0 p1 r1 t1 l t4 p5 r5 r3 r4;omega,by rw[e2];exact Int.add_le_add_left t3 _,?_⟩;clear h1;by_cases z:o<3
 ·have:=t4 z;clear t4 p5 p1 p2 r1 r2;omega
 ·by_cases z2:c<1460
  ·clear t4 p5 p1 p2 r1 r2;omega
  ·obtain rfl:o=3:=Int.le_antisymm t2 (Int.not_lt.mp z);have c0:c=1460:=by clear p5 e2 r5 t3 t4;omega
   by_cases z3:f<24
   ·rw[zqA r1 z3,e2,c0];exact zqB R H f
   ·obtain rfl:f=24:=Int.le_antisymm r2 (Int.not_lt.mp z3);obtain rfl:H=3:=by
     rcases Int.lt_or_le H 3 with d|d
     ·have:=p5 d;clear p5 t4;omega
     ·exact Int.le_antisymm p2 d
    rw[zpu,e2,c0];exact zqB R 3 24
theorem zeC{y r:Int}(h0:0<=r): ∀k:Nat,k<13->r<cum y ((k:Int)+1)-> ∃m,1<=m/\m<=12/\cum y m<=r/\r<cum y m+dim y m
 |0,_,h=>by
  have e:cum y (((0:Nat):Int)+1)=0:=rfl;omega
 |k+1,hk,h=>by
  by_cases c:r<cum y ((k:Int)+1)
  ·exact zeC h0 k 'o' c
  ·have s:=cum_succ (y:=y) (m:=(k:Int)+1) 'o' 'o';have e:((k+1:Nat):Int)+1=(k:Int)+1+1:=by omega
   rw[e,s] at h;exact⟨(k:Int)+1,'o','o','o',h⟩
theorem zgY(h0:0<=r)(h1:r<365+lp y): ∃m,1<=m/\m<=12/\cum y m<=r/\r<cum y m+dim y m:=
 zeC h0 12 'd' (by
                  have e:cum y (((12:Nat):Int)+1)=365+lp y:=cum_13 y;omega)
theorem date_exists{n:Int}(h0:0<=n)(h1:n<=3652058): ∃y m d,Valid y m d/\num y m d=n:=by
 obtain⟨a,b,c,d⟩:=yearOf_spec h0 h1;obtain⟨m,m1,m2,m3,m4⟩:=zgY (y:=yearOf n) (r:=n - ahead (yearOf n)) 'o' 'o';exact⟨yearOf n,m,n - ahead (yearOf n) - cum (yearOf n) m+1,⟨a,b,m1,m2,'o','o'⟩,by unfold num;omega⟩
end Cal
namespace Cal
end Cal
namespace Cal
def MonOk(y m k:Int):Prop:=1<=(y*12+m - 1+k) / 12/\(y*12+m - 1+k) / 12<=9999
def monY(y m k:Int):Int:=(y*12+m - 1+k) / 12
def monM(y m k:Int):Int:=(y*12+m - 1+k) % 12+1
def monD(y m d k:Int):Int:=if dim (monY y m k) (monM y m k)<d then dim (monY y m k) (monM y m k) else d
theorem mon_valid{y m d k:Int}(h:Valid y m d)(g:MonOk y m k):Valid (monY y m k) (monM y m k) (monD y m d k):=by
 obtain⟨_,_,_,_,h5,h6⟩:=h;obtain⟨g1,g2⟩:=g;have b:=zfq (monY y m k) (monM y m k);refine⟨g1,g2,by unfold monM;omega,by unfold monM;omega,?_,?_⟩
 ·unfold monD;split<;>omega
 ·unfold monD;split<;>omega
end Cal
namespace Cal
variable{y m n c:Int}{dy:Bool}
theorem zpv{d z k e:Int}(h:Valid y m d)(g:Valid z k e)(q:y*12+m<z*12+k):num y m d<num z k e:=by
 have a:=vx h;have b:=vx g;obtain⟨h1,h2,h3,h4,h5,h6⟩:=h;obtain⟨g1,g2,g3,g4,g5,g6⟩:=g;unfold num;by_cases c:y<z
 ·have:=jm c;omega
 ·obtain rfl:y=z:=by omega
  have:=jo (y:=y) h3 (show m<k by omega) 'o';omega
theorem znh{d:Int}(h:Valid y m d)(g:num y m d<=3500000):y<=9600:=by
 have a:=vx h;unfold num at g;unfold ahead at g;omega
theorem mon_ok{d k:Int}(h:Valid y m d)(g:num y m d<=3500000)(k0:0<=k)(k1:k<=720):MonOk y m k:=by
 have:=znh h g;obtain⟨h1,h2,h3,h4,h5,h6⟩:=h;exact⟨'o','o'⟩
open Classical in
noncomputable def mon(n k:Int):Int:=
 if h: ∃p:Int×Int×Int,Valid p.1 p.2.1 p.2.2/\num p.1 p.2.1 p.2.2=n then
  num (monY (choose h).1 (choose h).2.1 k) (monM (choose h).1 (choose h).2.1 k) (monD (choose h).1 (choose h).2.1 (choose h).2.2 k) else 0
theorem mon_eq{d k:Int}(h:Valid y m d):mon (num y m d) k=num (monY y m k) (monM y m k) (monD y m d k):=by
 have ex: ∃p:Int×Int×Int,Valid p.1 p.2.1 p.2.2/\num p.1 p.2.1 p.2.2=num y m d:=⟨(y,m,d),h,rfl⟩
 unfold mon;rw[dif_pos ex];obtain⟨v,e⟩:=Classical.choose_spec ex;obtain⟨e1,e2,e3⟩:=num_inj v h e;rw[e1,e2,e3]
theorem zlP(h0:0<=n)(h1:n<=3652058):mon n 0=n:=by
 obtain⟨y,m,d,va,rfl⟩:=date_exists h0 h1;rw[mon_eq va];obtain⟨v1,v2,v3,v4,v5,v6⟩:=id va;have e1:monY y m 0=y:=by unfold monY;omega
 have e2:monM y m 0=m:=by unfold monM;omega
 have e3:monD y m d 0=d:=by unfold monD;rw[e1,e2,Jf 'o']
 rw[e1,e2,e3]
theorem ziE{k:Int}(h0:0<=n)(h1:n<=3500000)(k0:0<=k)(k1:k<=720):0<=mon n k/\mon n k<=3652058:=by
 obtain⟨y,m,d,va,rfl⟩:=date_exists h0 'o';rw[mon_eq va];exact num_range (mon_valid va (mon_ok va h1 k0 k1))
theorem zpw{k j:Int}(h0:0<=n)(h1:n<=3500000)(k0:0<=k)(kj:k<j)(j1:j<=720):mon n k<mon n j:=by
 obtain⟨y,m,d,va,rfl⟩:=date_exists h0 'o';rw[mon_eq va,mon_eq va];refine zpv (mon_valid va (mon_ok va h1 k0 'o')) (mon_valid va (mon_ok va h1 'o' j1)) ?_;unfold monY monM;omega
noncomputable def beg(f:Int)(dy:Bool)(c k:Int):Int:=if dy=true then f+k*c else mon f (k*c)
def CycOk(dy:Bool)(c:Int):Prop:=1<=c/\c<=if dy=true then 400 else 12
theorem beg_zero{f:Int}(h0:0<=f)(h1:f<=3500000):beg f dy c 0=f:=by
 unfold beg;rw[Int.zero_mul];split
 ·omega
 ·exact zlP h0 'o'
theorem mul_bound{k:Int}(c0:1<=c)(c1:c<=12)(k0:0<=k)(k1:k<=60):0<=k*c/\k*c<=720:=by
 constructor
 ·exact Int.mul_nonneg k0 'o'
 ·have:=Int.mul_le_mul k1 c1 'o' 'o';omega
theorem beg_lt{f k j:Int}(h0:0<=f)(h1:f<=3500000)(hc:CycOk dy c)(k0:0<=k)(kj:k<j)(j1:j<=60):beg f dy c k<beg f dy c j:=by
 obtain⟨c0,c1⟩:=hc;have m:=Int.mul_lt_mul_of_pos_right kj (show 0<c by omega);unfold beg;cases dy with
 |true=>rw[Jg rfl,Jg rfl];omega
 |false=>
  rw[Jf 'd'] at c1;rw[Jf 'd',Jf 'd'];exact zpw h0 h1 (mul_bound c0 c1 k0 'o').1 m (mul_bound c0 c1 'o' j1).2
theorem beg_range{f k:Int}(h0:0<=f)(h1:f<=3500000)(hc:CycOk dy c)(k0:0<=k)(k1:k<=60):0<=beg f dy c k/\beg f dy c k<=3652058:=by
 obtain⟨c0,c1⟩:=hc;unfold beg;cases dy with
 |true=>
  rw[Jg rfl] at c1;rw[Jg rfl];have a:=Int.mul_nonneg k0 (show 0<=c by omega);have b:=Int.mul_le_mul k1 c1 'o' 'o';omega
 |false=>
  rw[Jf 'd'] at c1;rw[Jf 'd'];obtain⟨m0,m1⟩:=mul_bound c0 c1 k0 k1;exact ziE h0 h1 m0 m1
theorem cyc_days(a:1<=c)(b:c<=400):CycOk true c:=⟨a,by rw[Jg rfl];exact b⟩
theorem cyc_months(a:1<=c)(b:c<=12):CycOk false c:=⟨a,by rw[Jf 'd'];exact b⟩
theorem beg_le{f k j:Int}(h0:0<=f)(h1:f<=3500000)(hc:CycOk dy c)(k0:0<=k)(kj:k<=j)(j1:j<=60):beg f dy c k<=beg f dy c j:=by
 by_cases e:k=j
 ·rw[e];exact Jz _
 ·exact Int.le_of_lt (beg_lt h0 h1 hc k0 'o' j1)
theorem beg_ge{f k:Int}(h0:0<=f)(h1:f<=3500000)(hc:CycOk dy c)(k0:0<=k)(k1:k<=60):f<=beg f dy c k:=by
 have:=beg_le h0 h1 hc (Jz 0) k0 k1;rw[beg_zero h0 h1] at this;exact this
theorem beg_one{f k j d:Int}(h0:0<=f)(h1:f<=3500000)(hc:CycOk dy c)(k0:0<=k)(k1:k<60)(j0:0<=j)(j1:j<60)(a:beg f dy c k<=d)(b:d<beg f dy c (k+1))(a':beg f dy c j<=d)(b':d<beg f dy c (j+1)):k=j:=by
 rcases Int.lt_trichotomy k j with q|q|q
 ·have:=beg_le (k:=k+1) (j:=j) h0 h1 hc 'o' 'o' 'o';omega
 ·exact q
 ·have:=beg_le (k:=j+1) (j:=k) h0 h1 hc 'o' 'o' 'o';omega
end Cal
namespace L2
open PySem
variable{G:Int->List D}{z:Int×Int}{H H':Hp}{ys:List En}{day:Int}{i:Nat}{s:Pt}{cs:List Int}
abbrev Rt:=Nat×Int×Int×D
def Bst(rs:List Rt)(day:Int)(kd:Nat):Option Rt->Prop
 |none=> ∀t∈rs,t.1=kd->day<t.2.1
 |some t=>t∈rs/\t.1=kd/\t.2.1<=day/\ ∀u∈rs,u.1=kd->u.2.1<=day->u.2.2.1<=t.2.2.1
section
variable {rs rs':List Rt} {day:Int} {kd:Nat} {o o':Option Rt} {r t:Rt}
theorem Bst.one(inj: ∀t∈rs,∀u∈rs,t.2.2.1=u.2.2.1->t=u)(m: ∀t,t∈rs'↔t∈rs)(h:Bst rs day kd o)(h':Bst rs' day kd o'):o=o':=by
 match o,o',h,h' with
 |none,none,_,_=>rfl
 |none,some t,h,h'=>have:=h t ((m t).mp h'.1) h'.2.1;have:=h'.2.2.1;omega
 |some t,none,h,h'=>have:=h' t ((m t).mpr h.1) h.2.1;have:=h.2.2.1;omega
 |some t,some u,h,h'=>
  have a:=h.2.2.2 u ((m u).mp h'.1) h'.2.1 h'.2.2.1;have b:=h'.2.2.2 t ((m t).mpr h.1) h.2.1 h.2.2.1;rw[inj t h.1 u ((m u).mp h'.1) 'o']
theorem Bst.skip(h:Bst rs day kd o)(n:r.1=kd->day<r.2.1):Bst (rs++ [r]) day kd o:=by
 match o,h with
 |none,h=>
  intro t ht e;rcases Jr.mp ht with z|z
  ·exact h t z e
  ·rw[Jm.mp z] at e ⊢;exact n e
 |some t,h=>
  refine⟨List.mem_append_left _ h.1,h.2.1,h.2.2.1,λu hu e l=> ?_⟩;rcases Jr.mp hu with z|z
  ·exact h.2.2.2 u z e l
  ·rw[Jm.mp z] at e l;have:=n e;omega
theorem Bst.last(h:Bst rs day kd o)(e:r.1=kd)(l:r.2.1<=day)(b: ∀t,o=some t->t.2.2.1<=r.2.2.1):Bst (rs++ [r]) day kd (some r):=by
 refine⟨List.mem_append_right _ Jq,e,l,λu hu eu lu=> ?_⟩;rcases Jr.mp hu with z|z
 ·match o,h with
  |none,h=>have:=h u z eu;omega
  |some t,h=>
   have a:=h.2.2.2 u z eu lu
   have:=b t rfl;omega
 ·rw[Jm.mp z];exact Jz _
theorem Bst.more(h:Bst rs day kd o)(s: ∀t∈rs,t∈rs')(n: ∀t∈rs',t∉rs->day<t.2.1):Bst rs' day kd o:=by
 match o,h with
 |none,h=>
  intro t ht e;by_cases z:t∈rs
  ·exact h t z e
  ·exact n t ht z
 |some t,h=>
  refine⟨s t h.1,h.2.1,h.2.2.1,λu hu e l=> ?_⟩;by_cases z:u∈rs
  ·exact h.2.2.2 u z e l
  ·have:=n u hu z;omega
end
def stV(o:Option Rt)(d:D):D:=(o.map λt=>t.2.2.2).getD d
def chK:Ch->Nat
 | .plan _ _=>0
 | .seats _ _=>1
 |_=>2
def qf:Ch->Int
 | .plan d _=>d
 | .seats d _=>d
 | .word _ d=>d
 |_=>0
def vy:Nat->List Nat
 |0=> [104,101,108,100]
 |1=> [111,110]
 |_=> [111,102,102]
def vz:Ch->D
 | .plan _ nm=> .str nm
 | .seats _ n=> .int n
 | .word w _=> .str (vy w)
 |_=> .non
def zlQ:Ch->Bool
 | .word w _=>decide (3<=w)
 |_=>false
noncomputable def nb(f:Int)(dy:Bool)(c d:Int):Int:=open Classical in if h: ∃k:Int,0<=k/\k<60/\Cal.beg f dy c k<=d/\d<Cal.beg f dy c (k+1) then Cal.beg f dy c (h.choose+1) else 0
theorem znW{f c d k:Int}{dy:Bool}(f0:0<=f)(f1:f<=3500000)(hc:Cal.CycOk dy c)(k0:0<=k)(k1:k<60)(a:Cal.beg f dy c k<=d)(b:d<Cal.beg f dy c (k+1)):nb f dy c d=Cal.beg f dy c (k+1):=by
 unfold nb;have h: ∃k:Int,0<=k/\k<60/\Cal.beg f dy c k<=d/\d<Cal.beg f dy c (k+1):=⟨k,k0,k1,a,b⟩
 rw[dif_pos h];obtain⟨x1,x2,x3,x4⟩:=h.choose_spec;rw[Cal.beg_one f0 f1 hc x1 x2 k0 k1 x3 x4 a b]
noncomputable def cntF(f:Int)(dy:Bool)(c:Int)(ch:Ch):Int:=if zlQ ch=true then nb f dy c (qf ch) else qf ch
noncomputable def rtF(f:Int)(dy:Bool)(c:Int)(n:Int)(ch:Ch):Rt:=(chK ch,cntF f dy c ch,(cntF f dy c ch*4000000+qf ch)*64+n,vz ch)
section
variable {rs rs':List Rt} {day d2:Int} {kd:Nat} {o:Option Rt}
theorem Bst.mem(m: ∀t,t∈rs'↔t∈rs)(h:Bst rs day kd o):Bst rs' day kd o:=by
 match o,h with
 |none,h=>exact λt ht=>h t ((m t).mp ht)
 |some t,h=>exact⟨(m t).mpr h.1,h.2.1,h.2.2.1,λu hu=>h.2.2.2 u ((m u).mp hu)⟩
theorem Bst.on(h:Bst rs day kd o)(le:day<=d2)(n: ∀t∈rs,t.2.1<=day\/d2<t.2.1):Bst rs d2 kd o:=by
 match o,h with
 |none,h=>intro t ht e;have:=h t ht e;rcases n t ht with z|z<;>omega
 |some t,h=>exact⟨h.1,h.2.1,by have:=h.2.2.1;omega,λu hu e l=>h.2.2.2 u hu e (by rcases n u hu with z|z<;>omega)⟩
end
abbrev Rw:=Int×Int×List D
def Rws(G:Int->List D):Int->List Rw->Int->Prop
 |b, [],e=>b=e
 |b,x::r,e=>x.1=b/\b<x.2.1/\(∀d,b<=d->d<x.2.1->G d=x.2.2)/\(∀y,r.head? =some y->x.2.2≠y.2.2)/\Rws G x.2.1 r e
theorem Rws.le{G:Int->List D}: ∀{xs:List Rw} {b e:Int},Rws G b xs e->b<=e
 | [],_,_,h=>Int.le_of_eq h
 |x::r,b,e,h=>by have:=Rws.le h.2.2.2.2;have:=h.2.1;omega
theorem Rws.snoc{G:Int->List D}{z:Rw}: ∀{xs:List Rw} {b o:Int},Rws G b xs o->z.1=o->o<z.2.1->(∀d,o<=d->d<z.2.1->G d=z.2.2)->(∀x,xs.getLast? =some x->x.2.2≠z.2.2)->Rws G b (xs++ [z]) z.2.1
 | [],b,o,h,h1,h2,h3,_=>by
  obtain rfl:b=o:=h;exact⟨h1,h2,h3,(λ_ h=>nomatch h),rfl⟩
 |x::r,b,o,h,h1,h2,h3,h4=>by
  refine⟨h.1,h.2.1,h.2.2.1,λy hy=> ?_,Rws.snoc h.2.2.2.2 h1 h2 h3 λy hy=>h4 y ?_⟩
  ·cases r with
   |nil=>cases hy;exact h4 x rfl
   |cons y' r'=>exact h.2.2.2.1 y hy
  ·cases r with
   |nil=>cases hy
   |cons a b=>rw[List.getLast?_cons_cons];exact hy
theorem Rws.in{G:Int->List D}: ∀{zs:List (Addr×Rw)} {b e:Int} {j:Nat} {z:Addr×Rw},zs[j]? =some z->Rws G b (zs.map (·.2)) e->b<=z.2.1/\z.2.1<z.2.2.1/\z.2.2.1<=e
 | [],_,_,_,_,h,_=>by rw[List.getElem?_nil] at h;cases h
 |x::r,b,e,0,_,h,g=>by
  cases h;obtain⟨h1,h2,_,_,h5⟩:=g;have h1':x.2.1=b:=h1;have h2':b<x.2.2.1:=h2;exact⟨'o','o',Rws.le h5⟩
 |x::r,b,e,j+1,z,h,g=>by
  obtain⟨h1,h2,_,_,h5⟩:=g;have h2':b<x.2.2.1:=h2;obtain⟨i1,i2,i3⟩:=Rws.in (zs:=r) (j:=j) h h5;have i1':x.2.2.1<=z.2.1:=i1;exact⟨'o',i2,i3⟩
def ScD(d:D):Prop:=d= .non\/(∃i,d= .int i)\/ ∃cs,d= .str cs
theorem zqC{K:Fg}{n:Nat}{d:D}(h:ScD d):Dp K H n d (sv d):=by
 rcases h with rfl|⟨i,rfl⟩|⟨cs,rfl⟩
 ·exact zoB
 ·exact y6
 ·exact qH
def StD(d:List D):Prop:= ∃d0 n wd,ScD d0/\d= [d0, .int n, .str wd]
theorem StD.dp{K:Fg}{n:Nat}{a:Addr}{d:List D}(h:StD d)(e:H a=some (.tup (d.map sv))):Dp K H (n+1) (.tup d) (.ref a):=by
 obtain⟨d0,n,wd,h0,rfl⟩:=h;exact xh (SqT.of e) ⟨zqC h0,y6,qH,trivial⟩
theorem sc_seq{d:D}(h:ScD d):xM d=false:=by rcases h with rfl|⟨i,rfl⟩|⟨cs,rfl⟩<;>rfl
theorem zpx{d e:D}(h:ScD d)(g:ScD e):yC 0 d e:=by
 unfold yC;exact⟨sc_seq h,sc_seq g⟩
theorem StD.sc{d:List D}(h:StD d): ∀x∈d,ScD x:=by
 obtain⟨d0,n,wd,h0,rfl⟩:=h;intro x hx;simp only[JD,List.not_mem_nil,or_false] at hx;rcases hx with rfl|rfl|rfl
 ·exact h0
 ·exact .inr (.inl ⟨_,rfl⟩)
 ·exact .inr (.inr ⟨_,rfl⟩)
theorem StD.cmp{d e:List D}(h:StD d)(g:StD e):yC 1 (.tup d) (.tup e):=by
 unfold yC;intro j x y hx hy;exact zpx (h.sc x (Ji hx)) (g.sc y (Ji hy))
theorem zgZ{d e:D}(h:ScD d)(g:ScD e):eqb 0 d e=true↔d=e:=by
 rcases h with rfl|⟨i,rfl⟩|⟨cs,rfl⟩<;>rcases g with rfl|⟨j,rfl⟩|⟨cs',rfl⟩<;>unfold eqb<;>simp
theorem StD.eqb{d e:List D}(h:StD d)(g:StD e):eqb 1 (.tup d) (.tup e)=true↔d=e:=by
 obtain⟨d0,n,wd,h0,rfl⟩:=h;obtain⟨e0,m,we,g0,rfl⟩:=g;show (L2.eqb 0 d0 e0 && (L2.eqb 0 (.int n) (.int m) && (L2.eqb 0 (.str wd) (.str we) && true)))=true↔_;rw[Bool.and_eq_true,Bool.and_eq_true,Bool.and_eq_true,zgZ h0 g0,zgZ (.inr (.inl ⟨_,rfl⟩)) (.inr (.inl ⟨_,rfl⟩)),zgZ (.inr (.inr ⟨_,rfl⟩)) (.inr (.inr ⟨_,rfl⟩))];simp
def wU(H:Hp)(z:Addr×Rw):Prop:= ∃s,H z.1=some (.tup [.int z.2.1, .int z.2.2.1, .ref s])/\H s=some (.tup (z.2.2.2.map sv))/\StD z.2.2.2
def vA(H:Hp)(r:Addr)(zs:List (Addr×Rw)):Prop:=H r=some (.lst (zs.map λz=>V.ref z.1))/\ ∀z∈zs,wU H z
theorem wU.same{z:Addr×Rw}(h:wU H z)(s:zk H H'):wU H' z:=let ⟨a,h1,h2,h3⟩:=h;⟨a,s _ _ h1,s _ _ h2,h3⟩
theorem wU.put{z:Addr×Rw}{l:Addr}{xs ys:List V}(h:wU H z)(e:H l=some (.lst xs)):wU (upd H l (.lst ys)) z:=by
 obtain⟨a,h1,h2,h3⟩:=h;refine⟨a,?_,?_,h3⟩
 ·rw[zu (λy=>by rw[y,e] at h1;cases h1)];exact h1
 ·rw[zu (λy=>by rw[y,e] at h2;cases h2)];exact h2
theorem vA.same{H H':Hp}{r:Addr}{zs:List (Addr×Rw)}(h:vA H r zs)(s:zk H H'):vA H' r zs:=⟨s _ _ h.1,λz hz=>(h.2 z hz).same s⟩
theorem zk.none{H H':Hp}{a:Addr}(s:zk H H')(h:H' a=none):H a=none:=by
 rcases hh:H a with _|o
 ·rfl
 ·rw[s _ _ hh] at h;cases h
abbrev Tab:=List (Int×Int×Int)
def zt:Tab->Int->Int×Int
 | [],_=>(0,0)
 |z::r,k=>if z.1=k then z.2 else zt r k
def yJ(T:Tab)(k:Int)(v:Int×Int):Tab:=if (T.any λz=>decide (z.1=k))=true then T.map (λz=>if z.1=k then (z.1,v) else z) else T++ [(k,v)]
abbrev Pt:=Int×Int×Tab
abbrev Ln:=Int×List Nat×Int×Int×Int×Int×Int
def xE:List Nat:= [103,114,97,110,116]
def qM:List Nat:= [114,105,103,104,116]
def yX:List Nat:= [98,105,108,108]
def xm:List Nat:= [98,97,99,107]
def tkX(s:Pt)(a:Int):Int:=if s.1<a then s.1 else a
def tkY(s:Pt)(a:Int):Int:=if s.2.1<a - tkX s a then s.2.1 else a - tkX s a
def gvY(s:Pt)(k a:Int):Int:=if (zt s.2.2 k).2<a then (zt s.2.2 k).2 else a
def yK(s:Pt)(k a:Int):Pt:=(s.1 - tkX s a,s.2.1 - tkY s a,yJ s.2.2 k ((zt s.2.2 k).1+tkX s a,(zt s.2.2 k).2+a - tkX s a))
def qN(s:Pt)(k a:Int):Pt:=(s.1+(a - gvY s k a),s.2.1+gvY s k a,yJ s.2.2 k ((zt s.2.2 k).1 - (a - gvY s k a),(zt s.2.2 k).2 - gvY s k a))
def qY(s:Pt)(day k a:Int):Ln:=(day,qM,k, -a, -(a - gvY s k a), -(gvY s k a),0)
def yv(s:Pt)(day:Int)(w:List Nat)(k a:Int):Ln:=(day,w,k,a,tkX s a,tkY s a,a - tkX s a - tkY s a)
def zJ(day:Int):List (Int×Int)->Pt->List Ln×Pt
 | [],s=>([],s)
 |z::r,s=>if z.2<0 then (qY s day z.1 (-z.2)::(zJ day r (qN s z.1 (-z.2))).1,(zJ day r (qN s z.1 (-z.2))).2) else zJ day r s
def zL(day:Int):List (Int×Int)->Pt->List Ln×Pt
 | [],s=>([],s)
 |z::r,s=>if 0<z.2 then (yv s day qM z.1 z.2::(zL day r (yK s z.1 z.2)).1,(zL day r (yK s z.1 z.2)).2) else zL day r s
def zU(s:Pt)(cs:List Int):List (Int×Int):=cs.zipIdx.map λz=>((z.2:Int),z.1 - ((zt s.2.2 z.2).1+(zt s.2.2 z.2).2))
def yi(day:Int)(cs:List Int)(s:Pt):List Ln×Pt:=((zJ day (zU s cs) s).1++(zL day (zU s cs) (zJ day (zU s cs) s).2).1,(zL day (zU s cs) (zJ day (zU s cs) s).2).2)
def yg(day:Int):Nat->List En->List Ln
 |_, []=> []
 |n,z::r=>(match z.2.2.2 with| .grant a=>if z.2.2.1=day then [(day,xE,(n:Int),a,0,0,0)] else []|_=> [])++yg day (n+1) r
def zG(day:Int):List En->Int
 | []=>0
 |z::r=>(match z.2.2.2 with| .grant a=>if z.2.2.1=day then a else 0|_=>0)+zG day r
def xS(day:Int)(ys:List En):Bool:=ys.any λz=>decide (z.2.2.1=day) && (match z.2.2.2 with| .back=>true|_=>false)
def yx(day:Int)(ys:List En)(s:Pt):List Ln×Pt:=if xS day ys=true then (if s.2.1=0 then [] else [(day,xm, -1,s.2.1,0,0,0)],(s.1,0,s.2.2)) else ([],s)
def yq(cst:Int->Int->Int)(ys:List En)(day:Int)(k:Nat)(isb:Bool)(s:Pt):List Ln×Pt:=
 let s1:Pt:=(s.1+zG day ys,s.2)
 let r:=if (ys.any λz=>decide (z.2.2.1=day))=true then yi day ((List.range (if isb=true then k else k+1)).map λi:Nat=>cst day i) s1 else ([],s1)
 let b:=if isb=true then ([yv r.2 day yX k (cst day k)],yK r.2 k (cst day k)) else ([],r.2)
 let e:=yx day ys b.2
 (yg day 0 ys++r.1++b.1++e.1,e.2)
structure SpAt (f:Int) (dy:Bool) (c day:Int) (k:Nat) (isb:Bool):Prop where
 k60:k<60
 lo:Cal.beg f dy c k<=day
 hi:day<Cal.beg f dy c ((k:Int)+1)
 ib:isb=decide (Cal.beg f dy c k=day)
def yd(cst:Int->Int->Int)(ys:List En):List (Int×Nat×Bool)->Pt->List Ln×Pt
 | [],s=>([],s)
 |z::r,s=>((yq cst ys z.1 z.2.1 z.2.2 s).1++(yd cst ys r (yq cst ys z.1 z.2.1 z.2.2 s).2).1,(yd cst ys r (yq cst ys z.1 z.2.1 z.2.2 s).2).2)
structure WDays (f:Int) (dy:Bool) (c:Int) (ys:List En) (day:Int) (ds:List (Int×Nat×Bool)):Prop where
 up:(ds.map (·.1)).Pairwise (· < ·)
 sp: ∀z∈ds,SpAt f dy c z.1 z.2.1 z.2.2
 mem: ∀x,x∈ds.map (·.1)↔x<=day/\((∃j:Nat,j<60/\x=Cal.beg f dy c j)\/ ∃z∈ys,z.2.2.1=x)
theorem zfr(day:Int): ∀(a b:List En) (n:Nat),yg day n (a++b)=yg day n a++yg day (n+a.length) b
 | [],b,n=>rfl
 |z::r,b,n=>by
  rw[List.cons_append,yg,yg,zfr day r b (n+1),Jp,JM,Nat.add_right_comm,Nat.add_assoc]
theorem zfs(day:Int): ∀(a b:List En),zG day (a++b)=zG day a+zG day b
 | [],b=>by rw[List.nil_append,zG,JS]
 |z::r,b=>by rw[List.cons_append,zG,zG,zfs day r b,Int.add_assoc]
theorem zft{z:En}(h:ys[i]? =some z):yg day 0 (ys.take (i+1))=yg day 0 (ys.take i)++(match z.2.2.2 with| .grant a=>if z.2.2.1=day then [(day,xE,(i:Int),a,0,0,0)] else []|_=> [])/\zG day (ys.take (i+1))=zG day (ys.take i)+(match z.2.2.2 with| .grant a=>if z.2.2.1=day then a else 0|_=>0):=by
 have hi:=(Jc.mp h).1;have e:ys.take (i+1)=ys.take i++ [z]:=by rw[JH,h];rfl
 have l:0+(ys.take i).length=i:=by rw[JB];omega
 rw[e,zfr,zfs,l];refine⟨?_,?_⟩
 ·rw[yg,yg,Jt]
 ·rw[zG,zG,JJ]
theorem jp{c:Int}(h:cs[i]? =some c):(zU s cs)[i]? =some ((i:Int),c - ((zt s.2.2 i).1+(zt s.2.2 i).2)):=by
 unfold zU;rw[Jh,List.getElem?_zipIdx,h];simp
theorem wC(s:Pt)(cs:List Int):(zU s cs).length=cs.length:=by
 unfold zU;rw[Ja,List.length_zipIdx]
theorem zep(day:Int): ∀(a b:List (Int×Int)) (s:Pt),zJ day (a++b) s=((zJ day a s).1++(zJ day b (zJ day a s).2).1,(zJ day b (zJ day a s).2).2)
 | [],b,s=>rfl
 |z::r,b,s=>by
  rw[List.cons_append,zJ,zJ];split
  ·rw[zep day r b];rfl
  ·exact zep day r b s
theorem zeq(day:Int): ∀(a b:List (Int×Int)) (s:Pt),zL day (a++b) s=((zL day a s).1++(zL day b (zL day a s).2).1,(zL day b (zL day a s).2).2)
 | [],b,s=>rfl
 |z::r,b,s=>by
  rw[List.cons_append,zL,zL];split
  ·rw[zeq day r b];rfl
  ·exact zeq day r b s
theorem zhO(T:Tab)(k:Int)(v:Int×Int):(yJ T k v).length<=T.length+1:=by
 unfold yJ;split
 ·rw[Ja];exact Nat.le_succ _
 ·rw[Jj];exact Je _
theorem wD(day:Int): ∀(a:List (Int×Int)) (s:Pt),(zJ day a s).2.2.2.length<=s.2.2.length+a.length/\(zJ day a s).1.length<=a.length
 | [],s=>⟨Je _,Je _⟩
 |z::r,s=>by
  rw[zJ,Jp];split
  ·have h:=wD day r (qN s z.1 (-z.2))
   have:=zhO s.2.2 z.1 ((zt s.2.2 z.1).1 - ((-z.2) - gvY s z.1 (-z.2)),(zt s.2.2 z.1).2 - gvY s z.1 (-z.2));have e:(qN s z.1 (-z.2)).2.2=yJ s.2.2 z.1 ((zt s.2.2 z.1).1 - ((-z.2) - gvY s z.1 (-z.2)),(zt s.2.2 z.1).2 - gvY s z.1 (-z.2)):=rfl;rw[e] at h;simp only[Jp];omega
  ·have h:=wD day r s;omega
theorem wV(day:Int): ∀(a:List (Int×Int)) (s:Pt),(zL day a s).2.2.2.length<=s.2.2.length+a.length/\(zL day a s).1.length<=a.length
 | [],s=>⟨Je _,Je _⟩
 |z::r,s=>by
  rw[zL,Jp];split
  ·have h:=wV day r (yK s z.1 z.2)
   have:=zhO s.2.2 z.1 ((zt s.2.2 z.1).1+tkX s z.2,(zt s.2.2 z.1).2+z.2 - tkX s z.2);have e:(yK s z.1 z.2).2.2=yJ s.2.2 z.1 ((zt s.2.2 z.1).1+tkX s z.2,(zt s.2.2 z.1).2+z.2 - tkX s z.2):=rfl;rw[e] at h;simp only[Jp];omega
  ·have h:=wV day r s;omega
theorem wX(day:Int): ∀(a:List En) (n:Nat),(yg day n a).length<=a.length
 | [],n=>Je _
 |(v,ad,e,ch)::r,n=>by
  have h:=wX day r (n+1);rw[yg,Jj,Jp];cases ch with
  |grant a=>
   by_cases q:e=day
   ·simp only[q,if_true,Jp,List.length_nil];omega
   ·simp only[q,if_false,List.length_nil];omega
  |_=>simp only[List.length_nil];omega
theorem zni(h:(zU s cs)[i]? =some z):z.1=i:=by
 have hi:=(Jc.mp h).1;rw[wC] at hi;rw[jp (Jb hi)] at h;cases h;rfl
theorem zgn{D:List (Int×Int)}(h:D[i]? =some z):zJ day (D.take (i+1)) s=if z.2<0 then ((zJ day (D.take i) s).1++ [qY (zJ day (D.take i) s).2 day z.1 (-z.2)],qN (zJ day (D.take i) s).2 z.1 (-z.2)) else zJ day (D.take i) s:=by
 rw[show D.take (i+1)=D.take i++ [z] by rw[JH,h];rfl,zep,zJ];split
 ·rw[zJ]
 ·rw[zJ,Jt]
theorem zgo{D:List (Int×Int)}(h:D[i]? =some z):zL day (D.take (i+1)) s=if 0<z.2 then ((zL day (D.take i) s).1++ [yv (zL day (D.take i) s).2 day qM z.1 z.2],yK (zL day (D.take i) s).2 z.1 z.2) else zL day (D.take i) s:=by
 rw[show D.take (i+1)=D.take i++ [z] by rw[JH,h];rfl,zeq,zL];split
 ·rw[zL]
 ·rw[zL,Jt]
theorem jq(day:Int)(cs:List Int)(s:Pt):(yi day cs s).1.length<=2*cs.length:=by
 unfold yi;have h1:=(wD day (zU s cs) s).2;have h2:=(wV day (zU s cs) (zJ day (zU s cs) s).2).2;rw[wC] at h1 h2;rw[Jj];omega
theorem zfu(day:Int)(cs:List Int)(s:Pt):(yi day cs s).2.2.2.length<=s.2.2.length+2*cs.length:=by
 unfold yi;have h1:=(wD day (zU s cs) s).1;have h2:=(wV day (zU s cs) (zJ day (zU s cs) s).2).1;rw[wC] at h1 h2;show (zL day (zU s cs) (zJ day (zU s cs) s).2).2.2.2.length<=_;omega
theorem zgp(day:Int)(ys:List En)(s:Pt):(yx day ys s).1.length<=1:=by
 unfold yx;split
 ·split<;>simp
 ·exact Jv _
def yT(T:Tab):Prop:=(T.map (·.1)).Nodup/\ ∀x∈T.map (·.1),0<=x/\x<60
theorem zgq: ∀(n:Nat) (l:List Int),l.Nodup->(∀x∈l,0<=x/\x<(n:Int))->l.length<=n
 |0,l,_,h=>by
  cases l with
  |nil=>exact Je _
  |cons x r=>have:=h x Jq;omega
 |n+1,l,d,h=>by
  have h1:=zgq n (l.erase (n:Int)) (d.erase _) λx hx=>by
   have:=d.mem_erase_iff.mp hx;have h2:=h x this.2;have h3:=this.1;omega
  by_cases c:(n:Int)∈l
  ·rw[List.length_erase_of_mem c] at h1;omega
  ·rw[List.erase_of_not_mem c] at h1;omega
theorem yT.len{T:Tab}(h:yT T):T.length<=60:=by
 have:=zgq 60 _ h.1 h.2;rw[Ja] at this;exact this
theorem yT.put{T:Tab}(h:yT T){k:Int}(v:Int×Int)(k0:0<=k)(k1:k<60):yT (yJ T k v):=by
 unfold yJ;split
 ·have e:(T.map (λz=>if z.1=k then (z.1,v) else z)).map (·.1)=T.map (·.1):=by
   rw[List.map_map];refine List.map_congr_left λz _=> ?_;show (if z.1=k then (z.1,v) else z).1=z.1;split<;>rfl
  unfold yT;rw[e];exact h
 ·rename_i hn;have nk:k∉T.map (·.1):=λhk=>by
   obtain⟨z,hz,e⟩:=Jw.mp hk;exact hn (List.any_eq_true.mpr ⟨z,hz,JO e⟩)
  unfold yT;rw[Jd];refine⟨List.nodup_append.mpr ⟨h.1,List.nodup_cons.mpr ⟨nofun,List.Pairwise.nil⟩,λx hx y hy=> ?_⟩,λx hx=> ?_⟩
  ·obtain rfl:=Jm.mp hy;rintro rfl;exact nk hx
  ·rcases Jr.mp hx with hx|hx
   ·exact h.2 x hx
   ·obtain rfl:=Jm.mp hx;exact⟨k0,k1⟩
theorem zfv(day:Int): ∀(ps:List (Int×Int)) (s:Pt),(∀z∈ps,0<=z.1/\z.1<60)->yT s.2.2->yT (zJ day ps s).2.2.2
 | [],_,_,h=>h
 |z::r,s,hp,h=>by
  unfold zJ;have hr: ∀z∈r,0<=z.1/\z.1<60:=λx hx=>hp x (Jl _ hx);have hz:=hp z Jq;split
  ·exact zfv day r _ hr (h.put _ hz.1 hz.2)
  ·exact zfv day r _ hr h
theorem zfw(day:Int): ∀(ps:List (Int×Int)) (s:Pt),(∀z∈ps,0<=z.1/\z.1<60)->yT s.2.2->yT (zL day ps s).2.2.2
 | [],_,_,h=>h
 |z::r,s,hp,h=>by
  unfold zL;have hr: ∀z∈r,0<=z.1/\z.1<60:=λx hx=>hp x (Jl _ hx);have hz:=hp z Jq;split
  ·exact zfw day r _ hr (h.put _ hz.1 hz.2)
  ·exact zfw day r _ hr h
theorem zj8(day:Int)(hc:cs.length<=60)(h:yT s.2.2):yT (yi day cs s).2.2.2:=by
 have hd: ∀z∈zU s cs,0<=z.1/\z.1<60:=λz hz=>by
  obtain⟨w,hw,rfl⟩:=Jw.mp hz
  have:=List.mem_zipIdx hw;exact⟨Int.natCast_nonneg _,by show ((w.2:Nat):Int)<60;omega⟩
 exact zfw day _ _ hd (zfv day _ _ hd h)
theorem zlR(day:Int)(ys:List En)(h:yT s.2.2):yT (yx day ys s).2.2.2:=by
 unfold yx;split<;>exact h
theorem znj(day:Int){k:Nat}(isb:Bool)(a:Int){r:List Ln×Pt}(hk:k<60)(h:yT r.2.2.2):yT (if isb=true then ([yv r.2 day yX k a],yK r.2 k a) else ([],r.2)).2.2.2:=by
 split
 ·exact h.put _ (Int.natCast_nonneg k) 'o'
 ·exact h
theorem zlS(cst:Int->Int->Int)(ys:List En)(day:Int){k:Nat}(isb:Bool)(hk:k<60)(h:yT s.2.2):yT (yq cst ys day k isb s).2.2.2:=by
 unfold yq;refine zlR day ys ?_;have hr:yT (if (ys.any λz=>decide (z.2.2.1=day))=true then yi day ((List.range (if isb=true then k else k+1)).map λi:Nat=>cst day i) (s.1+zG day ys,s.2) else ([],(s.1+zG day ys,s.2))).2.2.2:=by
  split
  ·exact zj8 day (by rw[Ja,JI];split<;>omega) h
  ·exact h
 exact znj day isb (cst day k) hk hr
theorem zer(cst:Int->Int->Int)(day:Int){k:Nat}(isb:Bool)(s:Pt)(hk:k<60)(h40:ys.length<=40):(yq cst ys day k isb s).1.length<=200:=by
 unfold yq;dsimp only;rw[Jj,Jj,Jj];have h1:=zgp day ys (if isb=true then ([yv (if (ys.any λz=>decide (z.2.2.1=day))=true then yi day ((List.range (if isb=true then k else k+1)).map λi:Nat=>cst day i) (s.1+zG day ys,s.2) else ([],(s.1+zG day ys,s.2))).2 day yX k (cst day k)],yK (if (ys.any λz=>decide (z.2.2.1=day))=true then yi day ((List.range (if isb=true then k else k+1)).map λi:Nat=>cst day i) (s.1+zG day ys,s.2) else ([],(s.1+zG day ys,s.2))).2 k (cst day k)) else ([],(if (ys.any λz=>decide (z.2.2.1=day))=true then yi day ((List.range (if isb=true then k else k+1)).map λi:Nat=>cst day i) (s.1+zG day ys,s.2) else ([],(s.1+zG day ys,s.2))).2)).2;have h2:(if (ys.any λz=>decide (z.2.2.1=day))=true then yi day ((List.range (if isb=true then k else k+1)).map λi:Nat=>cst day i) (s.1+zG day ys,s.2) else ([],(s.1+zG day ys,s.2))).1.length<=120:=by
  split
  ·refine JE (jq _ _ _) ?_;rw[Ja,JI];split<;>omega
  ·exact Jv _
 have h3:=JE (wX day ys 0) h40;generalize (if (ys.any λz=>decide (z.2.2.1=day))=true then yi day ((List.range (if isb=true then k else k+1)).map λi:Nat=>cst day i) (s.1+zG day ys,s.2) else ([],(s.1+zG day ys,s.2)))=r at h1 h2 ⊢;have h4:(if isb=true then ([yv r.2 day yX k (cst day k)],yK r.2 k (cst day k)) else ([],r.2)).1.length<=1:=by
  split<;>simp
 omega
theorem zgr(cst:Int->Int->Int)(ys:List En): ∀(a b:List (Int×Nat×Bool)) (s:Pt),yd cst ys (a++b) s=((yd cst ys a s).1++(yd cst ys b (yd cst ys a s).2).1,(yd cst ys b (yd cst ys a s).2).2)
 | [],_,_=>rfl
 |z::a,b,s=>by
  rw[List.cons_append,yd,zgr cst ys a b,<-JM];rfl
theorem zfx(cst:Int->Int->Int)(ys:List En): ∀(a:List (Int×Nat×Bool)) (s:Pt),(∀z∈a,z.2.1<60)->yT s.2.2->yT (yd cst ys a s).2.2.2
 | [],_,_,h=>h
 |z::a,s,hk,h=>zfx cst ys a _ (λx hx=>hk x (Jl _ hx)) (zlS cst ys z.1 z.2.2 (hk z Jq) h)
theorem zes(cst:Int->Int->Int){ys:List En}(h40:ys.length<=40): ∀(a:List (Int×Nat×Bool)) (s:Pt),(∀z∈a,z.2.1<60)->(yd cst ys a s).1.length<=200*a.length
 | [],_,_=>Jv _
 |z::a,s,hk=>by
  have h1:=zes cst h40 a (yq cst ys z.1 z.2.1 z.2.2 s).2 (λx hx=>hk x (Jl _ hx));have h2:=zer cst z.1 z.2.2 s (hk z Jq) h40;show ((yq cst ys z.1 z.2.1 z.2.2 s).1++(yd cst ys a (yq cst ys z.1 z.2.1 z.2.2 s).2).1).length<=200*(a.length+1);rw[Jj];omega
theorem zgs(cst:Int->Int->Int)(ys:List En){ds:List (Int×Nat×Bool)}{z:Int×Nat×Bool}(s:Pt)(h:ds[i]? =some z):yd cst ys (ds.take (i+1)) s=((yd cst ys (ds.take i) s).1++(yq cst ys z.1 z.2.1 z.2.2 (yd cst ys (ds.take i) s).2).1,(yq cst ys z.1 z.2.1 z.2.2 (yd cst ys (ds.take i) s).2).2):=by
 rw[JH,h,zgr];show ((yd cst ys (ds.take i) s).1++((yq cst ys z.1 z.2.1 z.2.2 (yd cst ys (ds.take i) s).2).1++ []),_)=_;rw[Jt];rfl
def qg(ks:List (List Nat))(ls:List Ln):Int:=((ls.filter λz=>decide (z.2.1∈ks)).map λz=>z.2.2.2.1).sum
def wE(ls:List Ln):Int:=(ls.map λz=>z.2.2.2.2.2.2).sum
theorem zhP(k j:Int)(v:Int×Int): ∀T:Tab,(T.any λz=>decide (z.1=k))=false->zt (T++ [(k,v)]) j=if j=k then v else zt T j
 | [],_=>by
  rw[List.nil_append];unfold zt;by_cases h:j=k
  ·rw[Jg h,Jg h.symm]
  ·rw[Jf h,Jf (λz=>h z.symm)];rfl
 |z::r,h=>by
  rw[List.any_cons,Bool.or_eq_false_iff] at h;rw[List.cons_append,zt,zt];by_cases e:z.1=j
  ·rw[Jg e,Jg e,Jf (λq=>of_decide_eq_false h.1 (e.trans q))]
  ·rw[Jf e,Jf e];exact zhP k j v r h.2
theorem zfy(k j:Int)(v:Int×Int): ∀T:Tab,(j=k->(T.any λz=>decide (z.1=k))=true)->zt (T.map (λz=>if z.1=k then (z.1,v) else z)) j=if j=k then v else zt T j
 | [],h=>by
  by_cases e:j=k
  ·exact absurd (h e) (by rw[List.any_nil];exact Ju)
  ·rw[Jf e];rfl
 |z::r,h=>by
  rw[JA,zt,zt];by_cases e:z.1=k
  ·rw[Jg e];by_cases g:j=k
   ·rw[Jg (show z.1=j from e.trans g.symm),Jg g]
   ·rw[Jf (show¬z.1=j from λq=>g (q.symm.trans e)),Jf (show¬z.1=j from λq=>g (q.symm.trans e)),zfy k j v r (λq=>absurd q g),Jf g]
  ·rw[Jf e];by_cases q:z.1=j
   ·rw[Jg q,Jg q,Jf (λx=>e (q.trans x))]
   ·rw[Jf q,Jf q];refine zfy k j v r λx=> ?_
    have:=h x;rw[List.any_cons,Bool.or_eq_true] at this;exact this.resolve_left (λy=>e (of_decide_eq_true y))
theorem jr(T:Tab)(k:Int)(v:Int×Int)(j:Int):zt (yJ T k v) j=if j=k then v else zt T j:=by
 unfold yJ;by_cases h:(T.any λz=>decide (z.1=k))=true
 ·rw[Jg h];exact zfy k j v T λ_=>h
 ·rw[Jf h];exact zhP k j v T (Bool.eq_false_iff.mpr h)
def tkS(s:Pt)(i:Int):Int:=(zt s.2.2 i).1+(zt s.2.2 i).2
theorem zjr(s:Pt)(k a j:Int):tkS (yK s k a) j=tkS s j+if j=k then a else 0:=by
 show (zt (yJ s.2.2 k _) j).1+(zt (yJ s.2.2 k _) j).2=_;rw[jr];unfold tkS;by_cases h:j=k
 ·subst h;rw[Jg rfl,Jg rfl];show (zt s.2.2 j).1+tkX s a+((zt s.2.2 j).2+a - tkX s a)=_;omega
 ·rw[Jf h,Jf h];omega
theorem zjs(s:Pt)(k a j:Int):tkS (qN s k a) j=tkS s j - if j=k then a else 0:=by
 show (zt (yJ s.2.2 k _) j).1+(zt (yJ s.2.2 k _) j).2=_;rw[jr];unfold tkS;by_cases h:j=k
 ·subst h;rw[Jg rfl,Jg rfl];show (zt s.2.2 j).1 - (a - gvY s j a)+((zt s.2.2 j).2 - gvY s j a)=_;omega
 ·rw[Jf h,Jf h];omega
def ud(i:Int):List (Int×Int)->Int
 | []=>0
 |z::r=>(if i=z.1/\z.2<0 then z.2 else 0)+ud i r
def ue(i:Int):List (Int×Int)->Int
 | []=>0
 |z::r=>(if i=z.1/\0<z.2 then z.2 else 0)+ue i r
def uf(i:Int):List (Int×Int)->Int
 | []=>0
 |z::r=>(if i=z.1 then z.2 else 0)+uf i r
theorem zjt(i:Int): ∀ps,ud i ps+ue i ps=uf i ps
 | []=>rfl
 |z::r=>by
  have h:=zjt i r;show (if i=z.1/\z.2<0 then z.2 else 0)+ud i r+((if i=z.1/\0<z.2 then z.2 else 0)+ue i r)=(if i=z.1 then z.2 else 0)+uf i r;by_cases e:i=z.1
  ·by_cases n:z.2<0
   ·rw[Jg ⟨e,n⟩,Jf (λq=>by have:=q.2;omega),Jg e];omega
   ·by_cases p:0<z.2
    ·rw[Jf (λq=>n q.2),Jg ⟨e,p⟩,Jg e];omega
    ·rw[Jf (λq=>n q.2),Jf (λq=>p q.2),Jg e];omega
  ·rw[Jf (λq=>e q.1),Jf (λq=>e q.1),Jf e];omega
theorem zg1(day i:Int): ∀(ps:List (Int×Int)) (s:Pt),tkS (zJ day ps s).2 i=tkS s i+ud i ps
 | [],s=>(JJ _).symm
 |z::r,s=>by
  rw[zJ,ud];by_cases n:z.2<0
  ·rw[Jg n];show tkS (zJ day r (qN s z.1 (-z.2))).2 i=_;rw[zg1 day i r,zjs];by_cases e:i=z.1
   ·rw[Jg e,Jg ⟨e,n⟩];omega
   ·rw[Jf e,Jf (λq=>e q.1)];omega
  ·rw[Jf n,Jf (λq=>n q.2),zg1 day i r];omega
theorem zg2(day i:Int): ∀(ps:List (Int×Int)) (s:Pt),tkS (zL day ps s).2 i=tkS s i+ue i ps
 | [],s=>(JJ _).symm
 |z::r,s=>by
  rw[zL,ue];by_cases n:0<z.2
  ·rw[Jg n];show tkS (zL day r (yK s z.1 z.2)).2 i=_;rw[zg2 day i r,zjr];by_cases e:i=z.1
   ·rw[Jg e,Jg ⟨e,n⟩];omega
   ·rw[Jf e,Jf (λq=>e q.1)];omega
  ·rw[Jf n,Jf (λq=>n q.2),zg2 day i r];omega
theorem zju(s:Pt)(i:Int): ∀(cs:List Int) (n:Nat),uf i ((cs.zipIdx n).map λz=>((z.2:Int),z.1 - ((zt s.2.2 z.2).1+(zt s.2.2 z.2).2)))=if (n:Int)<=i/\i<n+cs.length then cs.getD (i - n).toNat 0 - tkS s i else 0
 | [],n=>by
  rw[Jf (λh=>by have:=h.1;have:=h.2;simp only[List.length_nil] at this;omega)];rfl
 |c::r,n=>by
  rw[List.zipIdx_cons,JA,uf,zju s i r (n+1)];by_cases e:i=n
  ·subst e;rw[Jg rfl,Jf 'o',Jg ⟨'o',by simp only[Jp];omega⟩,Int.sub_self];show c - ((zt s.2.2 n).1+(zt s.2.2 n).2)+0=c - ((zt s.2.2 n).1+(zt s.2.2 n).2);omega
  ·rw[Jf e];by_cases g:(n:Int)<=i/\i<n+(c::r).length
   ·rw[Jg g,Jg ⟨'o',by have:=g.2;simp only[Jp] at this;omega⟩];have t:(i - (n:Int)).toNat=(i - ((n+1:Nat):Int)).toNat+1:=by omega
    rw[t,List.getD_cons_succ];omega
   ·rw[Jf g,Jf (λq=>g ⟨'o',by simp only[Jp];omega⟩)];rfl
theorem zlW(day:Int)(cs:List Int)(s:Pt)(i:Int):tkS (yi day cs s).2 i=if 0<=i/\i<cs.length then cs.getD i.toNat 0 else tkS s i:=by
 show tkS (zL day (zU s cs) (zJ day (zU s cs) s).2).2 i=_;rw[zg2,zg1];have h1:=zjt i (zU s cs);have h2:=zju s i cs 0;have h3:(cs.zipIdx 0).map (λz=>((z.2:Int),z.1 - ((zt s.2.2 z.2).1+(zt s.2.2 z.2).2)))=zU s cs:=rfl;rw[h3] at h2;by_cases g:0<=i/\i<cs.length
 ·rw[Jg (show ((0:Nat):Int)<=i/\i<((0:Nat):Int)+cs.length from⟨g.1,'o'⟩),show i - ((0:Nat):Int)=i by omega] at h2;rw[Jg g];omega
 ·rw[Jf (λq=>g ⟨by have:=q.1;omega,by have:=q.2;omega⟩)] at h2;rw[Jf g];omega
theorem ug(ks:List (List Nat)):qg ks []=0:=rfl
theorem uh(ks:List (List Nat))(l:Ln)(ls:List Ln):qg ks (l::ls)=(if l.2.1∈ks then l.2.2.2.1 else 0)+qg ks ls:=by
 unfold qg;rw[JU];by_cases h:l.2.1∈ks
 ·rw[Jg (JO h),Jg h,JA,List.sum_cons]
 ·rw[Jf (by simpa using h),Jf h,JS]
theorem ui(ks:List (List Nat))(a b:List Ln):qg ks (a++b)=qg ks a+qg ks b:=by
 unfold qg;rw[JT,Jd,List.sum_append]
theorem znk(day:Int)(ys:List En)(s:Pt):qg [yX,qM] (yx day ys s).1=0/\(yx day ys s).2.2.2=s.2.2:=by
 unfold yx;split
 ·refine⟨?_,rfl⟩;dsimp only;split
  ·rfl
  ·rw[uh,ug,Jf (show¬xm∈ [yX,qM] by decide)];rfl
 ·exact⟨rfl,rfl⟩
theorem zlX{s':Pt}(h:s'.2.2=s.2.2)(i:Int):tkS s' i=tkS s i:=by unfold tkS;rw[h]
theorem znl(cst:Int->Int->Int)(ys:List En)(day:Int)(k:Nat)(isb:Bool)(s:Pt)(i:Nat):tkS (yq cst ys day k isb s).2 i=(if (ys.any λz=>decide (z.2.2.1=day))=true/\i<(if isb=true then k else k+1) then cst day i else tkS s i)+(if isb=true/\i=k then cst day k else 0):=by
 unfold yq;dsimp only;obtain⟨r,hr⟩: ∃r,r=(if (ys.any λz=>decide (z.2.2.1=day))=true then yi day ((List.range (if isb=true then k else k+1)).map λi:Nat=>cst day i) (s.1+zG day ys,s.2) else ([],(s.1+zG day ys,s.2))):=⟨_,rfl⟩
 rw[<-hr];have h1:tkS r.2 i=if (ys.any λz=>decide (z.2.2.1=day))=true/\i<(if isb=true then k else k+1) then cst day i else tkS s i:=by
  rw[hr];generalize (if isb=true then k else k+1)=n;by_cases g:(ys.any λz=>decide (z.2.2.1=day))=true
  ·rw[Jg g,zlW,Ja,JI];by_cases l:i<n
   ·rw[Jg ⟨'o','o'⟩,Jg ⟨g,l⟩,JF,Jo,Jh,List.getElem?_range l];rfl
   ·rw[Jf 'o',Jf (λq=>l q.2)];exact zlX rfl _
  ·rw[Jf g,Jf (λq=>g q.1)];exact zlX rfl _
 obtain⟨b,hb⟩: ∃b,b=(if isb=true then ([yv r.2 day yX k (cst day k)],yK r.2 k (cst day k)) else ([],r.2)):=⟨_,rfl⟩
 rw[<-hb];have h2:tkS b.2 i=tkS r.2 i+(if isb=true/\i=k then cst day k else 0):=by
  rw[hb];by_cases g:isb=true
  ·rw[Jg g];show tkS (yK r.2 k (cst day k)) i=_;rw[zjr];by_cases e:i=k
   ·rw[Jg 'o',Jg ⟨g,e⟩]
   ·rw[Jf 'o',Jf (λq=>e q.2)]
  ·rw[Jf g,Jf (λq=>g q.1)];exact(JJ _).symm
 rw[zlX (znk day ys b.2).2,h2,h1]
def wY(ys:List En)(y:Int)(C:Nat):Int->Nat->List (Int×Nat×Bool)->Prop
 |x,B, []=>B=C/\x<=y/\ ∀e∈ys,¬(x<e.2.2.1/\e.2.2.1<=y)
 |x,B,z::r=>x<z.1/\(∀e∈ys,¬(x<e.2.2.1/\e.2.2.1<z.1))/\(if z.2.2=true then z.2.1 else z.2.1+1)=B/\wY ys y C z.1 (z.2.1+1) r
theorem zjv(cst:Int->Int->Int){ys:List En}(hk: ∀x y,x<=y->(∀e∈ys,¬(x<e.2.2.1/\e.2.2.1<=y))-> ∀i,cst x i=cst y i){y:Int}{C:Nat}: ∀(ds:List (Int×Nat×Bool)) (s:Pt) (x:Int) (B:Nat),wY ys y C x B ds->(∀i:Nat,i<B->tkS s i=cst x i)->(∀i:Nat,B<=i->tkS s i=0)->(∀i:Nat,i<C->tkS (yd cst ys ds s).2 i=cst y i)/\ ∀i:Nat,C<=i->tkS (yd cst ys ds s).2 i=0
 | [],s,x,B,h,h1,h2=>by
  obtain⟨rfl,xy,no⟩:=h;exact⟨λi hi=>(h1 i hi).trans (hk x y xy no i),h2⟩
 |z::r,s,x,B,h,h1,h2=>by
  obtain⟨xz,no,eB,hr⟩:=h;have w:=znl cst ys z.1 z.2.1 z.2.2 s;rw[eB] at w;refine zjv cst hk r (yq cst ys z.1 z.2.1 z.2.2 s).2 z.1 (z.2.1+1) hr (λi hi=> ?_) (λi hi=> ?_)
  ·rw[w i];by_cases l:i<B
   ·have nb: ¬(z.2.2=true/\i=z.2.1):=λq=>by rw[Jg q.1] at eB;omega
    rw[Jf nb,JJ];by_cases g:(ys.any λe=>decide (e.2.2.1=z.1))=true
    ·rw[Jg ⟨g,l⟩]
    ·rw[Jf (λq=>g q.1),h1 i l];refine hk x z.1 'o' (λe he q=> ?_) i;by_cases q2:e.2.2.1=z.1
     ·exact g (List.any_eq_true.mpr ⟨e,he,JO q2⟩)
     ·exact no e he ⟨q.1,'o'⟩
   ·have b:z.2.2=true/\i=z.2.1:=by
     by_cases q:z.2.2=true
     ·rw[Jg q] at eB;exact⟨q,'o'⟩
     ·rw[Jf q] at eB;omega
    rw[Jf (λq=>l q.2),Jg b,h2 i 'o',JS,b.2]
  ·have nl: ¬i<B:=by
    by_cases q:z.2.2=true
    ·rw[Jg q] at eB;omega
    ·rw[Jf q] at eB;omega
   rw[w i,Jf (λq=>nl q.2),Jf (λq=>by have:=q.2;omega),h2 i 'o'];rfl
theorem zhQ{ys:List En}{y:Int}{C:Nat}{bg:Nat->Int}(hm: ∀i j,i<j->j<=60->bg i<bg j)(hC:C<=60)(c1:y<bg C)(c2: ∀j,j<C->bg j<=y): ∀(ds:List (Int×Nat×Bool)) (x:Int) (B:Nat),(ds.map (·.1)).Pairwise (· < ·)->(∀t,t∈ds.map (·.1)↔x<t/\t<=y/\((∃j,j<60/\t=bg j)\/ ∃e∈ys,e.2.2.1=t))->(∀z∈ds,z.2.1<60/\bg z.2.1<=z.1/\z.1<bg (z.2.1+1)/\(z.2.2=true↔bg z.2.1=z.1))->x<=y->B<=60->x<bg B->(∀j,j<B->bg j<=x)->wY ys y C x B ds
 | [],x,B,up,mem,sp,xy,B60,b1,b2=>by
  have no: ∀t,¬(x<t/\t<=y/\((∃j,j<60/\t=bg j)\/ ∃e∈ys,e.2.2.1=t)):=λt q=>nomatch (mem t).mpr q;refine⟨?_,xy,λe he q=>no e.2.2.1 ⟨q.1,q.2, .inr ⟨e,he,rfl⟩⟩⟩;rcases Nat.lt_trichotomy B C with h|h|h
  ·exact absurd ⟨b1,c2 B h, .inl ⟨B,'o',rfl⟩⟩ (no (bg B))
  ·exact h
  ·have:=b2 C h;omega
 |z::r,x,B,up,mem,sp,xy,B60,b1,b2=>by
  rw[JA] at up mem;obtain⟨u1,u2⟩:=List.pairwise_cons.mp up;obtain⟨k60,k1,k2,ib⟩:=sp z Jq;obtain⟨xz,zy,_⟩:=(mem z.1).mp Jq;have first: ∀t,x<t->t<z.1->((∃j,j<60/\t=bg j)\/ ∃e∈ys,e.2.2.1=t)->False:=λt h1 h2 h3=>by
   rcases JD.mp ((mem t).mpr ⟨h1,'o',h3⟩) with e|e
   ·omega
   ·have:=u1 t e;omega
  refine⟨xz,λe he q=>first e.2.2.1 q.1 q.2 (.inr ⟨e,he,rfl⟩),?_,?_⟩
  ·by_cases g:z.2.2=true
   ·rw[Jg g];have e:=ib.mp g;rcases Nat.lt_trichotomy z.2.1 B with h|h|h
    ·have:=b2 _ h;omega
    ·exact h
    ·exact(first (bg B) b1 (by have:=hm B z.2.1 h 'o';omega) (.inl ⟨B,'o',rfl⟩)).elim
   ·rw[Jf g];have e:bg z.2.1<z.1:=by
     rcases Int.lt_or_eq_of_le k1 with h|h
     ·exact h
     ·exact absurd (ib.mpr h) g
    rcases Nat.lt_trichotomy (z.2.1+1) B with h|h|h
    ·have:=b2 _ h;omega
    ·exact h
    ·refine(first (bg z.2.1) ?_ e (.inl ⟨z.2.1,k60,rfl⟩)).elim;rcases Nat.lt_or_ge B z.2.1 with q|q
     ·have:=hm B z.2.1 q 'o';omega
     ·have:z.2.1=B:=by omega
      rw[this];exact b1
  ·refine zhQ hm hC c1 c2 r z.1 (z.2.1+1) u2 (λt=> ?_) (λw hw=>sp w (Jl _ hw)) zy 'o' k2 (λj hj=> ?_)
   ·constructor
    ·intro h
     have:=(mem t).mp (Jl _ h);exact⟨u1 t h,this.2⟩
    ·intro h;rcases JD.mp ((mem t).mpr ⟨'o',h.2⟩) with e|e
     ·omega
     ·exact e
   ·rcases Nat.lt_or_ge j z.2.1 with q|q
    ·have:=hm j z.2.1 q 'o';omega
    ·have:j=z.2.1:=by omega
     rw[this];exact k1
def s4F(ls:List Ln):Int:=(ls.map λz=>z.2.2.2.2.1).sum
def s5F(ls:List Ln):Int:=(ls.map λz=>z.2.2.2.2.2.1).sum
theorem zlY(a b:List Ln):s4F (a++b)=s4F a+s4F b:=by unfold s4F;rw[Jd,List.sum_append]
theorem zlZ(a b:List Ln):s5F (a++b)=s5F a+s5F b:=by unfold s5F;rw[Jd,List.sum_append]
theorem zhR(a b:List Ln):wE (a++b)=wE a+wE b:=by unfold wE;rw[Jd,List.sum_append]
structure Led (s:Pt) (ls:List Ln) (s':Pt):Prop where
 gv:s'.1=s.1+qg [xE] ls - s4F ls
 ow:s'.2.1=s.2.1 - s5F ls - qg [xm] ls
 eq:qg [yX,qM] ls=s4F ls+s5F ls+wE ls
 pd:0<=wE ls
 gr:0<=qg [xE] ls
 bk:0<=qg [xm] ls
theorem Led.nil(s:Pt):Led s [] s:=⟨by show s.1=s.1+0 - 0;omega,by show s.2.1=s.2.1 - 0 - 0;omega,rfl,Jz _,Jz _,Jz _⟩
theorem Led.app{s' s2:Pt}{a b:List Ln}(h:Led s a s')(g:Led s' b s2):Led s (a++b) s2:=by
 obtain⟨h1,h2,h3,h4,h5,h6⟩:=h;obtain⟨g1,g2,g3,g4,g5,g6⟩:=g;constructor
 ·rw[ui,zlY];omega
 ·rw[ui,zlZ];omega
 ·rw[ui,zlY,zlZ,zhR];omega
 ·rw[zhR];omega
 ·rw[ui];omega
 ·rw[ui];omega
structure Pos (s:Pt):Prop where
 g:0<=s.1
 o:0<=s.2.1
 t: ∀i,0<=(zt s.2.2 i).1/\0<=(zt s.2.2 i).2
theorem Pos.zero:Pos (0,0, []):=⟨Jz _,Jz _,λ_=>⟨Jz _,Jz _⟩⟩
theorem zfA(h:Pos s)(day:Int){w:List Nat}(hw:w=yX\/w=qM)(k:Int){a:Int}(a0:0<=a):Led s [yv s day w k a] (yK s k a)/\Pos (yK s k a):=by
 have x0:0<=tkX s a/\tkX s a<=s.1/\tkX s a<=a:=by have:=h.g;unfold tkX;split<;>omega
 have y0:0<=tkY s a/\tkY s a<=s.2.1/\tkY s a<=a - tkX s a:=by have:=h.o;unfold tkY;split<;>omega
 have am: ∀ks:List (List Nat),qg ks [yv s day w k a]=if w∈ks then a else 0:=λks=>by
  rw[uh,ug,JJ];rfl
 have i1:w∈ [yX,qM]:=by rcases hw with rfl|rfl<;>decide
 have i2: ¬w∈ [xE]:=by rcases hw with rfl|rfl<;>decide
 have i3: ¬w∈ [xm]:=by rcases hw with rfl|rfl<;>decide
 have e4:s4F [yv s day w k a]=tkX s a:=JJ _;have e5:s5F [yv s day w k a]=tkY s a:=JJ _;have e6:wE [yv s day w k a]=a - tkX s a - tkY s a:=JJ _;refine⟨⟨?_,?_,?_,?_,?_,?_⟩,⟨?_,?_,λi=> ?_⟩⟩
 ·rw[am,Jf i2,e4];show s.1 - tkX s a=_;omega
 ·rw[am,Jf i3,e5];show s.2.1 - tkY s a=_;omega
 ·rw[am,Jg i1,e4,e5,e6];omega
 ·rw[e6];omega
 ·rw[am,Jf i2];exact Jz _
 ·rw[am,Jf i3];exact Jz _
 ·show 0<=s.1 - tkX s a;omega
 ·show 0<=s.2.1 - tkY s a;omega
 ·show 0<=(zt (yJ s.2.2 k _) i).1/\0<=(zt (yJ s.2.2 k _) i).2;rw[jr]
  have:=h.t k;split
  ·show 0<=(zt s.2.2 k).1+tkX s a/\0<=(zt s.2.2 k).2+a - tkX s a;omega
  ·exact h.t i
theorem zl0(h:Pos s)(day k:Int){a:Int}(a0:0<=a)(a1:a<=tkS s k):Led s [qY s day k a] (qN s k a)/\Pos (qN s k a):=by
 have hk:=h.t k;unfold tkS at a1;have y0:0<=gvY s k a/\gvY s k a<=(zt s.2.2 k).2/\gvY s k a<=a/\a - gvY s k a<=(zt s.2.2 k).1:=by unfold gvY;split<;>omega
 have am: ∀ks:List (List Nat),qg ks [qY s day k a]=if qM∈ks then -a else 0:=λks=>by
  rw[uh,ug,JJ];rfl
 have e4:s4F [qY s day k a]= -(a - gvY s k a):=JJ _;have e5:s5F [qY s day k a]= -(gvY s k a):=JJ _;have e6:wE [qY s day k a]=0:=rfl;refine⟨⟨?_,?_,?_,?_,?_,?_⟩,⟨?_,?_,λi=> ?_⟩⟩
 ·rw[am,Jf 'd',e4];show s.1+(a - gvY s k a)=_;omega
 ·rw[am,Jf 'd',e5];show s.2.1+gvY s k a=_;omega
 ·rw[am,Jg 'd',e4,e5,e6];omega
 ·rw[e6];exact Jz _
 ·rw[am,Jf 'd'];exact Jz _
 ·rw[am,Jf 'd'];exact Jz _
 ·have:=h.g;show 0<=s.1+(a - gvY s k a);omega
 ·have:=h.o;show 0<=s.2.1+gvY s k a;omega
 ·show 0<=(zt (yJ s.2.2 k _) i).1/\0<=(zt (yJ s.2.2 k _) i).2;rw[jr];split
  ·show 0<=(zt s.2.2 k).1 - (a - gvY s k a)/\0<=(zt s.2.2 k).2 - gvY s k a;omega
  ·exact h.t i
theorem zfB(day:Int): ∀(ps:List (Int×Int)) (s:Pt),Pos s->(ps.map (·.1)).Nodup->(∀z∈ps, -z.2<=tkS s z.1)->Led s (zJ day ps s).1 (zJ day ps s).2/\Pos (zJ day ps s).2
 | [],s,h,_,_=>⟨Led.nil s,h⟩
 |z::r,s,h,nd,hz=>by
  rw[JA,List.nodup_cons] at nd;have hr: ∀y∈r, -y.2<=tkS s y.1:=λy hy=>hz y (Jl _ hy);rw[zJ];by_cases n:z.2<0
  ·rw[Jg n];obtain⟨l1,p1⟩:=zl0 h day z.1 (a:= -z.2) 'o' (hz z Jq);have hr2: ∀y∈r, -y.2<=tkS (qN s z.1 (-z.2)) y.1:=λy hy=>by
    rw[zjs,Jf (λe=>nd.1 (by rw[<-e];exact Jw.mpr ⟨y,hy,rfl⟩)),Int.sub_zero];exact hr y hy
   obtain⟨l2,p2⟩:=zfB day r _ p1 nd.2 hr2;exact⟨l1.app l2,p2⟩
  ·rw[Jf n];exact zfB day r s h nd.2 hr
theorem zfC(day:Int): ∀(ps:List (Int×Int)) (s:Pt),Pos s->Led s (zL day ps s).1 (zL day ps s).2/\Pos (zL day ps s).2
 | [],s,h=>⟨Led.nil s,h⟩
 |z::r,s,h=>by
  rw[zL];by_cases n:0<z.2
  ·rw[Jg n];obtain⟨l1,p1⟩:=zfA h day (w:=qM) (.inr rfl) z.1 (a:=z.2) 'o';obtain⟨l2,p2⟩:=zfC day r _ p1;exact⟨l1.app l2,p2⟩
  ·rw[Jf n];exact zfC day r s h
theorem zgt(day:Int)(cs:List Int)(s:Pt)(h:Pos s)(c0: ∀x∈cs,0<=x):Led s (yi day cs s).1 (yi day cs s).2/\Pos (yi day cs s).2:=by
 obtain⟨l1,p1⟩:=zfB day (zU s cs) s h (by
  unfold zU;rw[List.map_map];have e:cs.zipIdx.map ((λz:Int×Int=>z.1) ∘ λz:Int×Nat=>((z.2:Int),z.1 - ((zt s.2.2 z.2).1+(zt s.2.2 z.2).2)))=(List.range cs.length).map λi:Nat=>(i:Int):=by
   rw[show ((λz:Int×Int=>z.1) ∘ λz:Int×Nat=>((z.2:Int),z.1 - ((zt s.2.2 z.2).1+(zt s.2.2 z.2).2)))=(λi:Nat=>(i:Int)) ∘ Prod.snd from rfl,<-List.map_map,List.zipIdx_map_snd,List.range_eq_range']
  rw[e];refine List.pairwise_map.mpr (List.nodup_range.imp λh e=>h 'o')) (λz hz=>by
  obtain⟨w,hw,rfl⟩:=Jw.mp hz
  have:=c0 w.1 (List.fst_mem_of_mem_zipIdx hw);show -(w.1 - tkS s w.2)<=tkS s w.2;omega)
 obtain⟨l2,p2⟩:=zfC day (zU s cs) _ p1;exact⟨l1.app l2,p2⟩
theorem zet(day:Int): ∀(ys:List En) (n:Nat) (s:Pt),Pos s->(∀z∈ys,∀a,z.2.2.2= .grant a->0<=a)->Led s (yg day n ys) (s.1+zG day ys,s.2)/\Pos (s.1+zG day ys,s.2)
 | [],n,s,h,_=>by
  have e:(s.1+zG day [],s.2)=s:=by show (s.1+0,s.2)=s;rw[JJ]
  rw[e];exact⟨Led.nil s,h⟩
 |z::r,n,s,h,hg=>by
  have hr: ∀y∈r,∀a,y.2.2.2= .grant a->0<=a:=λy hy=>hg y (Jl _ hy);have hz:=hg z Jq;obtain⟨a,l,ea,el,a0,l1⟩: ∃(a:Int) (l:List Ln),zG day (z::r)=a+zG day r/\yg day n (z::r)=l++yg day (n+1) r/\0<=a/\Led s l (s.1+a,s.2):=by
   have no:Led s [] (s.1+0,s.2):=by rw[JJ];exact Led.nil s
   obtain⟨v,ad,en,ch⟩:=z;cases ch with
   |grant a=>
    have a0:=hz a rfl;by_cases d:en=day
    ·refine⟨a, [(day,xE,(n:Int),a,0,0,0)],by rw[zG];simp only[d,if_true],by rw[yg];simp only[d,if_true],a0,?_⟩;have am: ∀ks:List (List Nat),qg ks [((day,xE,(n:Int),a,0,0,0):Ln)]=if xE∈ks then a else 0:=λks=>by
      rw[uh,ug,JJ]
     refine⟨?_,?_,?_,Jz _,?_,?_⟩
     ·rw[am,Jg 'd'];show s.1+a=s.1+a - 0;omega
     ·rw[am,Jf 'd'];show s.2.1=s.2.1 - 0 - 0;omega
     ·rw[am,Jf 'd'];rfl
     ·rw[am,Jg 'd'];exact a0
     ·rw[am,Jf 'd'];exact Jz _
    ·exact⟨0, [],by rw[zG];simp only[d,if_false],by rw[yg];simp only[d,if_false],Jz _,no⟩
   |_=>exact⟨0, [],rfl,rfl,Jz _,no⟩
  rw[ea,el];have p1:Pos (s.1+a,s.2):=⟨by have:=h.g;show 0<=s.1+a;omega,h.o,h.t⟩
  obtain⟨l2,p2⟩:=zet day r (n+1) _ p1 hr;have e:((s.1+a,s.2).1+zG day r,(s.1+a,s.2).2)=(s.1+(a+zG day r),s.2):=by rw[Int.add_assoc]
  rw[e] at l2 p2;exact⟨l1.app l2,p2⟩
theorem zl1(day:Int)(ys:List En)(s:Pt)(h:Pos s):Led s (yx day ys s).1 (yx day ys s).2/\Pos (yx day ys s).2:=by
 unfold yx;split
 ·refine⟨?_,⟨h.g,Jz _,h.t⟩⟩;dsimp only;split
  ·rename_i z;exact⟨by show s.1=s.1+0 - 0;omega,by show 0=s.2.1 - 0 - 0;omega,rfl,Jz _,Jz _,Jz _⟩
  ·have am: ∀ks:List (List Nat),qg ks [((day,xm, -1,s.2.1,0,0,0):Ln)]=if xm∈ks then s.2.1 else 0:=λks=>by
    rw[uh,ug,JJ]
   refine⟨?_,?_,?_,Jz _,?_,?_⟩
   ·rw[am,Jf 'd'];show s.1=s.1+0 - 0;omega
   ·rw[am,Jg 'd'];show 0=s.2.1 - 0 - s.2.1;omega
   ·rw[am,Jf 'd'];rfl
   ·rw[am,Jf 'd'];exact Jz _
   ·rw[am,Jg 'd'];exact h.o
 ·exact⟨Led.nil s,h⟩
theorem zl2(cst:Int->Int->Int)(ys:List En)(day:Int)(k:Nat)(isb:Bool)(s:Pt)(h:Pos s)(hk:k<60)(c0: ∀i:Nat,i<60->0<=cst day i)(hg: ∀z∈ys,∀a,z.2.2.2= .grant a->0<=a):Led s (yq cst ys day k isb s).1 (yq cst ys day k isb s).2/\Pos (yq cst ys day k isb s).2:=by
 unfold yq;dsimp only;obtain⟨l1,p1⟩:=zet day ys 0 s h hg;obtain⟨r,hr⟩: ∃r,r=(if (ys.any λz=>decide (z.2.2.1=day))=true then yi day ((List.range (if isb=true then k else k+1)).map λi:Nat=>cst day i) (s.1+zG day ys,s.2) else ([],(s.1+zG day ys,s.2))):=⟨_,rfl⟩
 rw[<-hr];obtain⟨l2,p2⟩:Led (s.1+zG day ys,s.2) r.1 r.2/\Pos r.2:=by
  rw[hr];split
  ·refine zgt day _ _ p1 λx hx=> ?_;obtain⟨i,hi,rfl⟩:=Jw.mp hx
   have:=List.mem_range.mp hi;exact c0 i (by split at this<;>omega)
  ·exact⟨Led.nil _,p1⟩
 obtain⟨b,hb⟩: ∃b,b=(if isb=true then ([yv r.2 day yX k (cst day k)],yK r.2 k (cst day k)) else ([],r.2)):=⟨_,rfl⟩
 rw[<-hb];obtain⟨l3,p3⟩:Led r.2 b.1 b.2/\Pos b.2:=by
  rw[hb];split
  ·exact zfA p2 day (.inl rfl) k (c0 k hk)
  ·exact⟨Led.nil _,p2⟩
 obtain⟨l4,p4⟩:=zl1 day ys b.2 p3;exact⟨((l1.app l2).app l3).app l4,p4⟩
theorem zhS(cst:Int->Int->Int)(ys:List En)(hg: ∀z∈ys,∀a,z.2.2.2= .grant a->0<=a): ∀(ds:List (Int×Nat×Bool)) (s:Pt),Pos s->(∀z∈ds,z.2.1<60)->(∀z∈ds,∀i:Nat,i<60->0<=cst z.1 i)->Led s (yd cst ys ds s).1 (yd cst ys ds s).2/\Pos (yd cst ys ds s).2
 | [],s,h,_,_=>⟨Led.nil s,h⟩
 |z::r,s,h,hk,c0=>by
  obtain⟨l1,p1⟩:=zl2 cst ys z.1 z.2.1 z.2.2 s h (hk z Jq) (c0 z Jq) hg;obtain⟨l2,p2⟩:=zhS cst ys hg r _ p1 (λx hx=>hk x (Jl _ hx)) (λx hx=>c0 x (Jl _ hx));exact⟨l1.app l2,p2⟩
end L2
namespace K61
open PySem L2
seal L2.PE L2.PA L2.PS L2.PSs L2.PT L2.PW L2.PG L2.PGs L2.PI L2.PO L2.PIf L2.PQ L2.PWQ
variable{m c e day b sb se g i:Int}{K:Fg}{H H' H0 H1:Hp}{dy:Bool}{l pa a r dx q kd td:Addr}{ch:Ch}{ts:List Tm}{α:Type}{zs:List (V×Pl)}{o0 o1 o2:Option Rt}{xs:List V}{ys:List En}{nms:List (List Nat)}{kvs:List (Key×V)}{s:Pt}{ws:List (Addr×Ln)}{n:Nat}
def top(i:Nat):Stmt:=PySem.Challenge.pw_paidspan_k61_lines_of_a_book.main.body.getD i (.Pass ⟨0,0,0,0⟩)
def inner(s:Stmt)(j:Nat):Stmt:=match s with
 | .ClassDef _ _ _ b _ _ _ _ _ _ _=>b.getD j (.Pass ⟨0,0,0,0⟩)
 |_=> .Pass ⟨0,0,0,0⟩
abbrev s_00:Stmt:=top 0
abbrev s_01:Stmt:=top 14
abbrev s_02:Stmt:=top 15
abbrev s_03:Stmt:=top 16
abbrev s_04:Stmt:=top 17
abbrev s_05:Stmt:=top 18
abbrev s_06:Stmt:=top 19
abbrev s_07:Stmt:=top 20
abbrev s_08:Stmt:=top 23
abbrev s_09:Stmt:=top 24
abbrev s_0a:Stmt:=top 26
abbrev s_0b:Stmt:=top 27
abbrev s_0c:Stmt:=top 29
abbrev s_0d:Stmt:=top 32
abbrev s_0e:Stmt:=top 33
abbrev s_0f:Stmt:=top 34
abbrev s_0g:Stmt:=top 35
abbrev s_0h:Stmt:=top 37
abbrev s_0i:Stmt:=top 38
abbrev s_0j:Stmt:=top 39
abbrev s_0k:Stmt:=top 40
abbrev s_0l:Stmt:=top 41
abbrev s_0m:Stmt:=top 42
abbrev s_0n:Stmt:=top 45
abbrev s_0o:Stmt:=top 46
abbrev s_0p:Stmt:=top 47
abbrev s_0q:Stmt:=top 51
abbrev s_0r:Stmt:=top 52
abbrev s_0s:Stmt:=top 53
abbrev s_0t:Stmt:=top 54
abbrev s_0u:Stmt:=top 55
abbrev s_0v:Stmt:=top 56
abbrev s_0w:Stmt:=top 57
abbrev s_0x:Stmt:=top 58
abbrev s_0y:Stmt:=top 59
abbrev s_0z:Stmt:=top 60
abbrev s_10:Stmt:=top 61
abbrev s_11:Stmt:=top 63
abbrev s_12:Stmt:=top 64
abbrev s_13:Stmt:=top 65
abbrev s_14:Stmt:=top 66
abbrev s_15:Stmt:=top 67
abbrev s_16:Stmt:=top 68
abbrev s_17:Stmt:=top 69
abbrev s_18:Stmt:=top 70
abbrev s_19:Stmt:=top 71
abbrev s_1a:Stmt:=top 72
abbrev s_1b:Stmt:=top 73
abbrev s_1c:Stmt:=top 74
abbrev s_1d:Stmt:=top 75
abbrev s_1e:Stmt:=top 76
abbrev s_1f:Stmt:=top 77
abbrev s_1g:Stmt:=top 78
abbrev s_1h:Stmt:=inner (top 49) 0
abbrev s_1i:Stmt:=inner (top 49) 1
abbrev s_1j:Stmt:=inner (top 49) 2
abbrev s_1k:Stmt:=inner (top 49) 3
abbrev s_1l:Stmt:=inner (top 49) 4
abbrev s_1m:Stmt:=inner (top 49) 5
abbrev s_1n:Stmt:=inner (top 49) 6
theorem st_4:Str.ofString "months"=SL [109,111,110,116,104,115]:=by decide+kernel
theorem st_9:Str.ofString "last"=SL [108,97,115,116]:=by decide+kernel
theorem st_10:Str.ofString "on"=SL [111,110]:=by decide+kernel
theorem st_11:Str.ofString "plan"=SL [112,108,97,110]:=by decide+kernel
theorem st_12:Str.ofString "seats"=SL [115,101,97,116,115]:=by decide+kernel
theorem st_13:Str.ofString "undo"=SL [117,110,100,111]:=by decide+kernel
theorem st_14:Str.ofString "grant"=SL [103,114,97,110,116]:=by decide+kernel
theorem st_15:Str.ofString "right"=SL [114,105,103,104,116]:=by decide+kernel
theorem st_16:Str.ofString "back"=SL [98,97,99,107]:=by decide+kernel
theorem st_17:Str.ofString "bill"=SL [98,105,108,108]:=by decide+kernel
theorem st_18:Str.ofString "abcdefghijklmnopqrstuvwxyz"=SL [97,98,99,100,101,102,103,104,105,106,107,108,109,110,111,112,113,114,115,116,117,118,119,120,121,122]:=by decide+kernel
theorem st_19:Str.ofString "abcdefgh"=SL [97,98,99,100,101,102,103,104]:=by decide+kernel
theorem st_20:Str.ofString "days"=SL [100,97,121,115]:=by decide+kernel
theorem st_21:Str.ofString "hold"=SL [104,111,108,100]:=by decide+kernel
theorem st_22:Str.ofString "go"=SL [103,111]:=by decide+kernel
theorem st_23:Str.ofString "stop"=SL [115,116,111,112]:=by decide+kernel
theorem st_24:Str.ofString "given"=SL [103,105,118,101,110]:=by decide+kernel
theorem st_25:Str.ofString "own"=SL [111,119,110]:=by decide+kernel
theorem st_26:Str.ofString "took"=SL [116,111,111,107]:=by decide+kernel
set_option genInjectivity false in
set_option genSizeOf false in
structure Adr where
 a_00:Addr
 d_00:FuncData
 a_01:Addr
 d_01:FuncData
 a_02:Addr
 d_02:FuncData
 a_03:Addr
 d_03:FuncData
 a_04:Addr
 d_04:FuncData
 a_05:Addr
 d_05:FuncData
 a_06:Addr
 d_06:FuncData
 a_07:Addr
 d_07:FuncData
 a_08:Addr
 d_08:FuncData
 a_09:Addr
 d_09:FuncData
 a_0a:Addr
 d_0a:FuncData
 a_0b:Addr
 d_0b:FuncData
 a_0c:Addr
 d_0c:FuncData
 a_0d:Addr
 d_0d:FuncData
 a_0e:Addr
 d_0e:FuncData
 a_0f:Addr
 d_0f:FuncData
 a_0g:Addr
 d_0g:FuncData
 a_0h:Addr
 d_0h:FuncData
 a_0i:Addr
 d_0i:FuncData
 a_0j:Addr
 d_0j:FuncData
 a_0k:Addr
 d_0k:FuncData
 a_0l:Addr
 d_0l:FuncData
 a_0m:Addr
 d_0m:FuncData
 a_0n:Addr
 d_0n:FuncData
 a_0o:Addr
 d_0o:FuncData
 a_0p:Addr
 d_0p:FuncData
 a_0q:Addr
 d_0q:FuncData
 a_0r:Addr
 d_0r:FuncData
 a_0s:Addr
 d_0s:FuncData
 a_0t:Addr
 d_0t:FuncData
 a_0u:Addr
 d_0u:FuncData
 a_0v:Addr
 d_0v:FuncData
 a_0w:Addr
 d_0w:FuncData
 a_0x:Addr
 d_0x:FuncData
 a_0y:Addr
 d_0y:FuncData
 a_0z:Addr
 d_0z:FuncData
 a_10:Addr
 d_10:FuncData
 a_11:Addr
 d_11:FuncData
 a_12:Addr
 d_12:FuncData
 a_13:Addr
 d_13:FuncData
 a_14:Addr
 d_14:FuncData
 a_15:Addr
 d_15:FuncData
 a_16:Addr
 d_16:FuncData
 a_17:Addr
 d_17:FuncData
 a_18:Addr
 d_18:FuncData
 a_19:Addr
 d_19:FuncData
 a_1a:Addr
 d_1a:FuncData
 a_1b:Addr
 d_1b:FuncData
 a_1c:Addr
 d_1c:FuncData
 a_1d:Addr
 d_1d:FuncData
 a_1e:Addr
 d_1e:FuncData
 a_1f:Addr
 d_1f:FuncData
 a_1g:Addr
 d_1g:FuncData
 a_1h:Addr
 d_1h:FuncData
 a_1i:Addr
 d_1i:FuncData
 a_1j:Addr
 d_1j:FuncData
 a_1k:Addr
 d_1k:FuncData
 a_1l:Addr
 d_1l:FuncData
 a_1m:Addr
 d_1m:FuncData
 a_1n:Addr
 d_1n:FuncData
 c_Z0a:Addr
 c_Z05:Addr
 c_Z06:Addr
 c_Z0c:Addr
 c_Z07:Addr
structure Txt (w:World) (K:Fg) (mg:Str->Option Value) (t:Adr):Prop where
 F_00:DF K mg "_wall" ["k"] s_00 t.a_00 t.d_00
 F_01:DF K mg "has_leap_day" ["year"] s_01 t.a_01 t.d_01
 F_02:DF K mg "days_in" ["year","month"] s_02 t.a_02 t.d_02
 F_03:DF K mg "days_ahead_of_year" ["year"] s_03 t.a_03 t.d_03
 F_04:DF K mg "day_of" ["year","month","day"] s_04 t.a_04 t.d_04
 F_05:DF K mg "year_of" ["number"] s_05 t.a_05 t.d_05
 F_06:DF K mg "date_of" ["number"] s_06 t.a_06 t.d_06
 F_07:DF K mg "months_on" ["number","many"] s_07 t.a_07 t.d_07
 F_08:DF K mg "begin_of" ["first","cycle","k"] s_08 t.a_08 t.d_08
 F_09:DF K mg "span_on" ["first","cycle","day"] s_09 t.a_09 t.d_09
 F_0a:DF K mg "span_days" ["account","k"] s_0a t.a_0a t.d_0a
 F_0b:DF K mg "span_with" ["account","day"] s_0b t.a_0b t.d_0b
 F_0c:DF K mg "share" ["price","count","begin","end"] s_0c t.a_0c t.d_0c
 F_0d:DF K mg "counts_from" ["account","change"] s_0d t.a_0d t.d_0d
 F_0e:DF K mg "in_order" ["account","terms"] s_0e t.a_0e t.d_0e
 F_0f:DF K mg "state_by" ["ordered","day"] s_0f t.a_0f t.d_0f
 F_0g:DF K mg "stretches_by" ["ordered","begin","end"] s_0g t.a_0g t.d_0g
 F_0h:DF K mg "price_and_count" ["account","name"] s_0h t.a_0h t.d_0h
 F_0i:DF K mg "stretch_cost" ["account","span","stretch"] s_0i t.a_0i t.d_0i
 F_0j:DF K mg "lines_ahead" ["account","ordered","span","day"] s_0j t.a_0j t.d_0j
 F_0k:DF K mg "cost_of" ["lines"] s_0k t.a_0k t.d_0k
 F_0l:DF K mg "span_lines" ["account","terms","k"] s_0l t.a_0l t.d_0l
 F_0m:DF K mg "span_cost" ["account","terms","k"] s_0m t.a_0m t.d_0m
 F_0n:DF K mg "is_term" ["change"] s_0n t.a_0n t.d_0n
 F_0o:DF K mg "standing_terms" ["entries"] s_0o t.a_0o t.d_0o
 F_0p:DF K mg "terms_at" ["entries","moment"] s_0p t.a_0p t.d_0p
 F_0q:DF K mg "costs_by" ["account","entries","many","moment"] s_0q t.a_0q t.d_0q
 F_0r:DF K mg "days_entered" ["entries"] s_0r t.a_0r t.d_0r
 F_0s:DF K mg "work_days" ["account","entries","day"] s_0s t.a_0s t.d_0s
 F_0t:DF K mg "grant_lines" ["pots","entries","day"] s_0t t.a_0t t.d_0t
 F_0u:DF K mg "line_of_less" ["pots","day","k","amount"] s_0u t.a_0u t.d_0u
 F_0v:DF K mg "line_of_more" ["pots","day","kind","k","amount"] s_0v t.a_0v t.d_0v
 F_0w:DF K mg "right_lines" ["pots","day","costs"] s_0w t.a_0w t.d_0w
 F_0x:DF K mg "back_lines" ["pots","entries","day"] s_0x t.a_0x t.d_0x
 F_0y:DF K mg "work_of_day" ["account","entries","pots","day"] s_0y t.a_0y t.d_0y
 F_0z:DF K mg "keep_book" ["account","entries","day"] s_0z t.a_0z t.d_0z
 F_10:DF K mg "book_lines" ["account","entries","day"] s_10 t.a_10 t.d_10
 F_11:DF K mg "_law_mixed" ["_law_cell","_law_k"] s_11 t.a_11 t.d_11
 F_12:DF K mg "_law_draw" ["_law_script","_law_k"] s_12 t.a_12 t.d_12
 F_13:DF K mg "_law_names" ["_law_cell"] s_13 t.a_13 t.d_13
 F_14:DF K mg "_law_plans" ["_law_cell","_law_names_here"] s_14 t.a_14 t.d_14
 F_15:DF K mg "_law_account" ["_law_script"] s_15 t.a_15 t.d_15
 F_16:DF K mg "_law_reach" ["_law_account_here","_law_far"] s_16 t.a_16 t.d_16
 F_17:DF K mg "_law_change" ["_law_x","_law_number","_law_entered","_law_account_here","_law_reach_here","_law_open_terms"] s_17 t.a_17 t.d_17
 F_18:DF K mg "_law_entries" ["_law_script","_law_account_here","_law_reach_here","_law_start","_law_many"] s_18 t.a_18 t.d_18
 F_19:DF K mg "_law_case" ["_law_script"] s_19 t.a_19 t.d_19
 F_1a:DF K mg "_law_take" ["_law_known","_law_k","_law_amount"] s_1a t.a_1a t.d_1a
 F_1b:DF K mg "_law_give" ["_law_known","_law_k","_law_amount"] s_1b t.a_1b t.d_1b
 F_1c:DF K mg "_law_right" ["_law_known","_law_account_here","_law_terms","_law_day_here","_law_begun"] s_1c t.a_1c t.d_1c
 F_1d:DF K mg "_law_day" ["_law_known","_law_account_here","_law_entries_here","_law_day_here","_law_begun"] s_1d t.a_1d t.d_1d
 F_1e:DF K mg "_law_due" ["_law_account_here","_law_entries_here","_law_day_here"] s_1e t.a_1e t.d_1e
 F_1f:DF K mg "_law_are_lines" ["_law_found","_law_due_here"] s_1f t.a_1f t.d_1f
 F_1g:DF K mg "law" ["_law_script"] s_1g t.a_1g t.d_1g
 me_1h:Meth K t.c_Z07 "__init__" t.a_1h
 fn_1h:Fun K "__init__" "Pots.__init__" s_1h t.a_1h t.d_1h
 b_1h:qc K t.d_1h ["self"] []
 me_1i:Meth K t.c_Z07 "grant" t.a_1i
 fn_1i:Fun K "grant" "Pots.grant" s_1i t.a_1i t.d_1i
 b_1i:qc K t.d_1i ["self","amount"] []
 me_1j:Meth K t.c_Z07 "take" t.a_1j
 fn_1j:Fun K "take" "Pots.take" s_1j t.a_1j t.d_1j
 b_1j:qc K t.d_1j ["self","k","amount"] []
 me_1k:Meth K t.c_Z07 "give" t.a_1k
 fn_1k:Fun K "give" "Pots.give" s_1k t.a_1k t.d_1k
 b_1k:qc K t.d_1k ["self","k","amount"] []
 me_1l:Meth K t.c_Z07 "pay_back" t.a_1l
 fn_1l:Fun K "pay_back" "Pots.pay_back" s_1l t.a_1l t.d_1l
 b_1l:qc K t.d_1l ["self"] []
 me_1m:Meth K t.c_Z07 "took" t.a_1m
 fn_1m:Fun K "took" "Pots.took" s_1m t.a_1m t.d_1m
 b_1m:qc K t.d_1m ["self","k"] []
 me_1n:Meth K t.c_Z07 "left" t.a_1n
 fn_1n:Fun K "left" "Pots.left" s_1n t.a_1n t.d_1n
 b_1n:qc K t.d_1n ["self"] []
 mg_Z0a:mg "SpanError"=some (.ref t.c_Z0a)
 mg_Z05:mg "NoDate"=some (.ref t.c_Z05)
 mg_Z06:mg "NoSpan"=some (.ref t.c_Z06)
 mg_Z0c:mg "TooLong"=some (.ref t.c_Z0c)
 mg_Z07:mg "Pots"=some (.ref t.c_Z07)
 cs_Z07:Cls K t.c_Z07
 mk_Z07:Mk K t.c_Z07 t.a_1h
 na_Pots_given:xv K t.c_Z07 "given"
 na_Pots_own:xv K t.c_Z07 "own"
 na_Pots_taken:xv K t.c_Z07 "taken"
 ex_Z05:Exc K t.c_Z05
 ex_Z06:Exc K t.c_Z06
 ex_Z0c:Exc K t.c_Z0c
 k_Z03: ∃u,mg "LAST_YEAR"=some u/\zw (.int 9999) u
 k_Z02: ∃u,mg "LAST_DAY"=some u/\zw (.int 3652058) u
 k_Z04: ∃a,mg "MONTH_DAYS"=some (.ref a)/\ ∀H,SqT K H a [.int 31, .int 28, .int 31, .int 30, .int 31, .int 30, .int 31, .int 31, .int 30, .int 31, .int 30, .int 31]
 k_Z08: ∃u,mg "ROUND_DAYS"=some u/\zw (.int 146097) u
 k_Z01: ∃u,mg "HUNDRED_YEARS_DAYS"=some u/\zw (.int 36524) u
 k_Z00: ∃u,mg "FOUR_YEARS_DAYS"=some u/\zw (.int 1461) u
 k_Z0e: ∃u,mg "YEAR_DAYS"=some u/\zw (.int 365) u
 k_Z09: ∃u,mg "SPANS"=some u/\zw (.int 60) u
 k_Z0d:zqm w K mg "WORDS" [(SL [104,111,108,100], .str (SL [104,101,108,100])),(SL [103,111], .str (SL [111,110])),(SL [115,116,111,112], .str (SL [111,102,102])),(SL [108,97,115,116], .str (SL [111,102,102]))]
 k_Z0b: ∃a,mg "TERMS"=some (.ref a)/\ ∀H,SqT K H a [.str (SL [112,108,97,110]), .str (SL [115,101,97,116,115]), .str (SL [104,111,108,100]), .str (SL [103,111]), .str (SL [115,116,111,112]), .str (SL [108,97,115,116])]
 no_range:mg "range"=none
 no_divmod:mg "divmod"=none
 no_min:mg "min"=none
 no_sorted:mg "sorted"=none
 no_sum:mg "sum"=none
 no_enumerate:mg "enumerate"=none
 no_list:mg "list"=none
 no_set:mg "set"=none
 no_len:mg "len"=none
 no_int:mg "int"=none
 no_isinstance:mg "isinstance"=none
 no_tuple:mg "tuple"=none
 no_str:mg "str"=none
 no_bool:mg "bool"=none
 cl_Z0a:ClsOk K t.c_Z0a
 cl_Z05:ClsOk K t.c_Z05
 cl_Z06:ClsOk K t.c_Z06
 cl_Z0c:ClsOk K t.c_Z0c
 cl_Z07:ClsOk K t.c_Z07
 xc_NoSpan:ExcCls K t.c_Z06
 xc_TooLong:ExcCls K t.c_Z0c
 m_NoSpan_SpanError:PySem.W.mroIn K t.c_Z06 (.ref t.c_Z0a)=some true
 m_NoSpan_NoDate:PySem.W.mroIn K t.c_Z06 (.ref t.c_Z05)=some false
 m_NoSpan_NoSpan:PySem.W.mroIn K t.c_Z06 (.ref t.c_Z06)=some true
 m_NoSpan_TooLong:PySem.W.mroIn K t.c_Z06 (.ref t.c_Z0c)=some false
 m_NoSpan_Pots:PySem.W.mroIn K t.c_Z06 (.ref t.c_Z07)=some false
 m_NoSpan_ValueError:PySem.W.mroIn K t.c_Z06 (.type "ValueError")=some true
 m_TooLong_SpanError:PySem.W.mroIn K t.c_Z0c (.ref t.c_Z0a)=some true
 m_TooLong_NoDate:PySem.W.mroIn K t.c_Z0c (.ref t.c_Z05)=some false
 m_TooLong_NoSpan:PySem.W.mroIn K t.c_Z0c (.ref t.c_Z06)=some false
 m_TooLong_TooLong:PySem.W.mroIn K t.c_Z0c (.ref t.c_Z0c)=some true
 m_TooLong_Pots:PySem.W.mroIn K t.c_Z0c (.ref t.c_Z07)=some false
 m_TooLong_ValueError:PySem.W.mroIn K t.c_Z0c (.type "ValueError")=some true
 m_SpanError_BaseException:PySem.W.mroIn K t.c_Z0a (.type "BaseException")=some true
section
local macro_rules| `(tactic|lge_open0)=> `(tactic|dsimp only[uc,rJ,rJ0,rUJ,wS,zlx,znU,zly,znV,ipJ,zlz,asT,tQ,tQN,jb,jc,jd,je,jf,jg,jh,u8,u9,ziA,zlG,ja,zqt,zqu,zgh,zgi,zhK,zlw,zqw,zqx,zpc,zpd,zpe,zpf,zpg,zph,zpi,zpj,zpk,zpl,zpm,zpn,zpo,zpp,zpq,zpr,zo5,zo6,zo7,zo8,zo9,zpa,zna,zpb,zla,zp2,zp3,ziX,jP,znI,zp4,zp5,zk8,znO,zk6,zk5,znN,tDc,zoy,xg,jZ,List.replicate,Option.join_some,Option.join_none,ziZ,tSl,zp6,zqS,ut,Int.reduceToNat,Int.reduceNeg,Int.reduceAdd,Int.reduceSub,Int.reduceMul,zpW,znD,zpX,znE,vI,xI,wG,vH,tC,tOp,tUn,tB,tOr,um,znH,uz,jW,tCB,rEq,rNe,L2.start,List.length_cons,List.length_nil,List.cons_append,List.nil_append,List.replicate_succ,List.replicate_zero,Nat.reduceAdd,Nat.reduceSub,List.getElem?_cons_zero,List.getElem?_cons_succ,List.set_cons_zero,List.set_cons_succ,Bool.not_true,Bool.not_false])
local macro_rules| `(tactic|lgec_open0)=> `(tactic|simp only[u0,wx,ub,zlK,zlL,u7,zhN,zjl,zmT,zkR,zkS,wK,slT,Int.reduceLT,Int.reduceLE,forall_const,zmO,zmP,zmQ,zmR,zmS,List.append_nil,Option.some.injEq,V.int.injEq,V.bl.injEq,V.ref.injEq,V.str.injEq,exists_eq_left',exists_eq_left,exists_eq',exists_and_left,List.cons.injEq,and_true,true_and,and_self,and_assoc,decide_eq_true_eq,if_true,if_false,Bool.true_eq_false,Bool.false_eq_true,Bool.not_eq_true',decide_eq_false_iff_not,ite_true,ite_false,reduceCtorEq,false_and,exists_false,false_or,or_false,and_false,Nat.reduceLeDiff])
local macro_rules| `(tactic|open_k0)=> `(tactic|((try lge_open0);(try (lgec_open0;(try lge_open0);(try lgec_open0)))))
local macro_rules| `(tactic|kdl_open)=> `(tactic|(intro vs H Q E h;(repeat (rcases h with⟨_,h⟩));subst_vars;rfl))
local macro_rules| `(tactic|sl_open)=> `(tactic|exact⟨rfl,rfl,rfl,by decide+kernel,rfl,by decide+kernel,by decide+kernel⟩)
variable {P:Program} {w:World} {K:Fg} {mg:Str->Option Value} {base:Heap} {t:Adr}
def zpy:Sp:=λvs H Q _=> ∃y:Int,vs= [.int y]/\Q (.bl (decide (Cal.lp y=1))) H
theorem sc_01:FnScope ["year"] ["year"] (zE s_01):=by sl_open
theorem ok_01(T:Txt w K mg t):FnOk P w K mg base (CXE P w) 1 t.a_01 t.d_01 ["year"] zpy:=by
 refine T.F_01.fn.okX sc_01 (λvs H Q E h=> ?_) (λcdv A outer s H vs Q E L hr h=> ?_)
 ·obtain⟨y,rfl,_⟩:=h;rfl
 obtain⟨y,rfl,q⟩:=h;have nd:=sc_01.nd;refine⟨_,(zq (zD (zji (xt xr (zh zK (pvJ 0) zc) zc (yu _)) (jF (zo3 (xt znF (zh zK (pvJ 0) zc) zc (yu _)) (jF (xt xr (zh zK (pvJ 0) zc) zc (yu _)))))))),?_⟩;open_k0;have e: ∀b,b=decide (Cal.lp y=1)->Q (.bl b) H:=λb z=>by rw[z];exact q
 split
 ·split
  ·exact e _ (by simp [Cal.lp, *])
  ·refine e _ ?_;by_cases c:y % 400=0<;>simp [Cal.lp, *]
 ·exact e _ (by simp [Cal.lp, *])
def ziG(y m:Int):Prop:=1<=y/\y<=9999/\1<=m/\m<=12
def zpz(t:Adr):Sp:=λvs H Q E=> ∃y m:Int,vs= [.int y, .int m]/\(ziG y m->Q (.int (Cal.dim y m)) H)/\(¬ziG y m->E (.ref t.c_Z05) none H)
theorem zfD(h1:1<=m)(h2:m<=12):atI [V.int 31,V.int 28,V.int 31,V.int 30,V.int 31,V.int 30,V.int 31,V.int 31,V.int 30,V.int 31,V.int 30,V.int 31] (m - 1)=some (.int (if m=2 then 28 else if m=4\/m=6\/m=9\/m=11 then 30 else 31)):=by
 have q:m=1\/m=2\/m=3\/m=4\/m=5\/m=6\/m=7\/m=8\/m=9\/m=10\/m=11\/m=12:=by omega
 rcases q with rfl|rfl|rfl|rfl|rfl|rfl|rfl|rfl|rfl|rfl|rfl|rfl<;>rfl
theorem sc_02:FnScope ["year","month"] ["year","month"] (zE s_02):=by sl_open
theorem ok_02(T:Txt w K mg t):FnOk P w K mg base (CXE P w) 2 t.a_02 t.d_02 ["year","month"] (zpz t):=by
 refine T.F_02.fn.okX sc_02 (λvs H Q E h=> ?_) (λcdv A outer s H vs Q E L hr h=> ?_)
 ·obtain⟨y,m,rfl,_⟩:=h;rfl
 obtain⟨y,m,rfl,q1,q2⟩:=h;have nd:=sc_02.nd;obtain⟨a_Z04,h_Z04,q_Z04⟩:=T.k_Z04;have r_Z04:zw (.ref a_Z04) (.ref a_Z04):=rfl;obtain⟨u_Z03,h_Z03,r_Z03⟩:=T.k_Z03;refine⟨_,(zj (zP (PWQ.pq (wB (yp qy (pvJ 0) zc) (wz (yp q5 (pvJ 0) (qO (by rfl) h_Z03 r_Z03))))) (zq (wy L T.ex_Z05 (by rfl) (by rfl) T.mg_Z05 (zb xG ze))) zR) (zj (zP (PWQ.pq (wB (yp qy (pvJ 1) zc) (wz (yp q5 (pvJ 1) zc)))) (zq (wy L T.ex_Z05 (by rfl) (by rfl) T.mg_Z05 (zb xG ze))) zR) (zj (zP (PWQ.pq (xR (qe (pvJ 1) zc) (xQ (qL (xH (peD L.toLv (ok_01 T) hr T.F_01 (zb (pvJ 0) ze))))))) (zq (zD zc)) zR) (zq (zD (ixJ zQ (qO (by rfl) h_Z04 r_Z04) (zh zX (pvJ 1) zc))))))),?_⟩;open_k0;split
 ·exact q2 (λz=>by obtain⟨_,_,_,_⟩:=z;omega)
 split
 ·exact q2 (λz=>by obtain⟨_,_,_,_⟩:=z;omega)
 split
 ·exact q2 (λz=>by obtain⟨_,_,_,_⟩:=z;omega)
 split
 ·exact q2 (λz=>by obtain⟨_,_,_,_⟩:=z;omega)
 have ok:ziG y m:=⟨'o','o','o','o'⟩
 have q:=q1 ok;split
 ·rename_i h2;subst h2;refine⟨y,rfl,_,rfl,?_⟩;have l:=Cal.lp_01 y;have e:Cal.dim y 2=28+Cal.lp y:=rfl;rw[e] at q;split
  ·rename_i c;have z:Cal.lp y=1:=of_decide_eq_true c;rw[z] at q;exact q
  ·rename_i c;have z:Cal.lp y≠1:=of_decide_eq_false (Bool.eq_false_iff.mpr c);refine ixT (q_Z04 _) (zfD 'o' 'o') ?_;have z0:Cal.lp y=0:=by omega
   rw[z0] at q;exact q
 ·rename_i h2;refine ixT (q_Z04 _) (zfD 'o' 'o') ?_;rw[Jf h2];unfold Cal.dim at q;rw[Jf h2] at q;exact q
def znm:Sp:=λvs H Q _=> ∃y:Int,vs= [.int y]/\Q (.int (Cal.ahead y)) H
theorem sc_03:FnScope ["year","past"] ["year"] (zE s_03):=by sl_open
theorem ok_03(T:Txt w K mg t):FnOk P w K mg base (CXE P w) 1 t.a_03 t.d_03 ["year"] znm:=by
 refine T.F_03.fn.okX sc_03 (λvs H Q E h=> ?_) (λcdv A outer s H vs Q E L hr h=> ?_)
 ·obtain⟨y,rfl,_⟩:=h;rfl
 obtain⟨y,rfl,q⟩:=h;have nd:=sc_03.nd;obtain⟨u_Z0e,h_Z0e,r_Z0e⟩:=T.k_Z0e;refine⟨_,(zj (psJ 1 nd (zh zX (pvJ 0) zc)) (zq (zD (zh zO (zh zX (zh zO (zh qt (pvJ 1) (qO (by rfl) h_Z0e r_Z0e)) (zh yQ (pvJ 1) zc)) (zh yQ (pvJ 1) zc)) (zh yQ (pvJ 1) zc))))),?_⟩;open_k0;exact⟨Or.inr ⟨'d','d'⟩,q⟩
def znn(t:Adr):Sp:=λvs H Q E=> ∃y m d:Int,vs= [.int y, .int m, .int d]/\(Cal.Valid y m d->Q (.int (Cal.num y m d)) H)/\(¬Cal.Valid y m d->E (.ref t.c_Z05) none H)
theorem sc_04:FnScope ["year","month","day","ahead","earlier"] ["year","month","day"] (zE s_04):=by sl_open
theorem ok_04(T:Txt w K mg t):FnOk P w K mg base (CXE P w) 3 t.a_04 t.d_04 ["year","month","day"] (znn t):=by
 refine T.F_04.fn.okX sc_04 (λvs H Q E h=> ?_) (λcdv A outer s H vs Q E L hr h=> ?_)
 ·obtain⟨y,m,d,rfl,_⟩:=h;rfl
 obtain⟨y,m,d,rfl,q1,q2⟩:=h;have nd:=sc_04.nd;refine⟨_,(zj (zP (PWQ.pq (wB (yp qy (pvJ 2) zc) (wz (yp q5 (pvJ 2) (peD L.toLv (ok_02 T) hr T.F_02 (zb (pvJ 0) (zb (pvJ 1) ze zg) zg)))))) (zq (wy L T.ex_Z05 (by rfl) (by rfl) T.mg_Z05 (zb xG ze))) zR) (zj (psJ 3 nd (peD L.toLv (ok_03 T) hr T.F_03 (zb (pvJ 0) ze))) (zj (qp (by passes_own) rfl (zjH (by rfl) T.no_range (zb zc (zb (pvJ 1) ze zg) zC)) (zr (i:=4) nd rfl (Or.inl rfl)) (zq (u5 (i:=3) nd rfl (Or.inl rfl) (peD L.toLv (ok_02 T) hr T.F_02 (zb (pvJ 0) (zb (pvJ 4) ze zg) zg)) zjj))) (zq (zD (zh zX (zh zO (pvJ 3) (pvJ 2)) zc)))))),?_⟩;open_k0;split
 ·exact q2 (λz=>by obtain⟨_,_,_,_,_,_⟩:=z;omega)
 refine⟨y,m,rfl,λok=> ?_,λno=>q2 (λz=>no ⟨z.1,z.2.1,z.2.2.1,z.2.2.2.1⟩)⟩;obtain⟨o1,o2,o3,o4⟩:=ok;open_k0;split
 ·exact q2 (λz=>by obtain⟨_,_,_,_,_,_⟩:=z;omega)
 have va:Cal.Valid y m d:=⟨o1,o2,o3,o4,'o','o'⟩
 have q:=q1 va;refine⟨y,rfl,?_⟩;first|refine⟨_,rfl,1,m,rfl,⟨'d','d','o','o'⟩,?_⟩|refine⟨1,m,rfl,⟨'d','d','o','o'⟩,?_⟩
 refine vf (λi σ1 H1=>H1=H/\ ∃e,σ1= [some (.int y),some (.int m),some (.int d),some (.int (Cal.ahead y+Cal.cum y ((i:Int)+1))),e]) ⟨rfl,none,?_⟩ (λi σ1 H1 hi h=> ?_) (λσ1 H1 h=> ?_)
 ·have e:Cal.ahead y+Cal.cum y (((0:Nat):Int)+1)=Cal.ahead y:=by
   rw[show (((0:Nat):Int)+1)=1 from rfl,Cal.cum_one];omega
  rw[e]
 ·obtain⟨rfl,e,rfl⟩:=h;open_k0;refine⟨y,1+(i:Int),rfl,λ_=> ?_,λno=>absurd ⟨o1,o2,'o','o'⟩ no⟩;refine⟨_,rfl,rfl,?_⟩;have s:=Cal.cum_succ (y:=y) (m:=(i:Int)+1) 'o' 'o';have e1:((i+1:Nat):Int)+1=(i:Int)+1+1:=by omega
  have e2:(1:Int)+(i:Int)=(i:Int)+1:=by omega
  rw[e1,s,e2,Int.add_assoc]
 ·obtain⟨rfl,e,rfl⟩:=h;open_k0;have e1:(((m - 1).toNat:Nat):Int)+1=m:=by omega
  rw[e1];exact q
def zl3:Sp:=λvs H Q _=> ∃n:Int,vs= [.int n]/\ ∀H',zk H H'->Q (.int (Cal.yearOf n)) H'
theorem sc_05:FnScope ["number","rounds","rest","hundreds","fours","ones"] ["number"] (zE s_05):=by sl_open
theorem ok_05(T:Txt w K mg t):FnOk P w K mg base (CXE P w) 1 t.a_05 t.d_05 ["number"] zl3:=by
 refine T.F_05.fn.okX sc_05 (λvs H Q E h=> ?_) (λcdv A outer s H vs Q E L hr h=> ?_)
 ·obtain⟨n,rfl,_⟩:=h;rfl
 obtain⟨n,rfl,q⟩:=h;have nd:=sc_05.nd;obtain⟨u_Z08,h_Z08,r_Z08⟩:=T.k_Z08;obtain⟨u_Z01,h_Z01,r_Z01⟩:=T.k_Z01;obtain⟨u_Z00,h_Z00,r_Z00⟩:=T.k_Z00;obtain⟨u_Z0e,h_Z0e,r_Z0e⟩:=T.k_Z0e;refine⟨_,(zj (yB (ye zev (by rfl) T.no_divmod zf2 (zb (pvJ 0) (zb (qO (by rfl) h_Z08 r_Z08) ze zg) zg)) (zZ (n:=2) rfl (zH (zr (i:=1) nd rfl (Or.inl rfl)) (zH (zr (i:=2) nd rfl (Or.inl rfl)) yF)))) (zj (psJ 3 nd (ye (xu (by rfl)) (by rfl) T.no_min xA (zb (zh yQ (pvJ 2) (qO (by rfl) h_Z01 r_Z01)) (zb zc ze zC) zM))) (zj (u5 (i:=2) nd rfl (Or.inl rfl) (zh qt (pvJ 3) (qO (by rfl) h_Z01 r_Z01)) zjk) (zj (yB (ye zev (by rfl) T.no_divmod zf2 (zb (pvJ 2) (zb (qO (by rfl) h_Z00 r_Z00) ze zg) zg)) (zZ (n:=2) rfl (zH (zr (i:=4) nd rfl (Or.inl rfl)) (zH (zr (i:=2) nd rfl (Or.inl rfl)) yF)))) (zj (psJ 5 nd (ye (xu (by rfl)) (by rfl) T.no_min xA (zb (zh yQ (pvJ 2) (qO (by rfl) h_Z0e r_Z0e)) (zb zc ze zC) zM))) (zq (zD (zh zO (zh zO (zh zO (zh zO (zh qt (pvJ 1) zc) (zh qt (pvJ 3) zc)) (zh qt (pvJ 4) zc)) (pvJ 5)) zc)))))))),?_⟩;open_k0;intro p hp;refine⟨p,_,rfl,SqT.of zF,rfl,?_⟩;open_k0;refine⟨Or.inr ⟨'d','d'⟩,λp2 hp2=>⟨p2,_,rfl,SqT.of zF,rfl,?_⟩⟩;open_k0;refine⟨Or.inr ⟨'d','d'⟩,Or.inr ⟨'d','d'⟩,Or.inr ⟨'d','d'⟩,?_⟩;have e: ∀r:Int,r=Cal.yearOf n->Q (.int r) (upd (upd H p (.tup [.int (n / 146097), .int (n % 146097)])) p2 (.tup [.int ((n % 146097 - (if 3<n % 146097 / 36524 then 3 else n % 146097 / 36524)*36524) / 1461), .int ((n % 146097 - (if 3<n % 146097 / 36524 then 3 else n % 146097 / 36524)*36524) % 1461)])):=λr z=>by
  rw[z];exact q _ ((yP hp _).trans (yP hp2 _))
 refine e _ ?_;unfold Cal.yearOf;have m1: ∀a:Int,min a 3=if 3<a then 3 else a:=λa=>by split<;>omega
 simp only[m1]
def zl4(t:Adr):Sp:=λvs H Q E=> ∃n:Int,vs= [.int n]/\
 (0<=n/\n<=3652058-> ∀y m d p H',Cal.Valid y m d->Cal.num y m d=n->zk H H'->H' p=some (.tup [.int y, .int m, .int d])->Q (.ref p) H')/\(¬(0<=n/\n<=3652058)->E (.ref t.c_Z05) none H)
theorem sc_06:FnScope ["number","year","rest","month"] ["number"] (zE s_06):=by sl_open
theorem ok_06(T:Txt w K mg t):FnOk P w K mg base (CXE P w) 3 t.a_06 t.d_06 ["number"] (zl4 t):=by
 refine T.F_06.fn.okX sc_06 (λvs H Q E h=> ?_) (λcdv A outer s H vs Q E L hr h=> ?_)
 ·obtain⟨n,rfl,_⟩:=h;rfl
 obtain⟨n,rfl,q1,q2⟩:=h;have nd:=sc_06.nd;obtain⟨u_Z02,h_Z02,r_Z02⟩:=T.k_Z02;refine⟨_,(zj (zP (PWQ.pq (wB (yp qy (pvJ 0) zc) (wz (yp q5 (pvJ 0) (qO (by rfl) h_Z02 r_Z02))))) (zq (wy L T.ex_Z05 (by rfl) (by rfl) T.mg_Z05 (zb xG ze))) zR) (zj (psJ 1 nd (peD L.toLv (ok_05 T) hr T.F_05 (zb (pvJ 0) ze))) (zj (psJ 2 nd (zh zX (pvJ 0) (peD L.toLv (ok_03 T) hr T.F_03 (zb (pvJ 1) ze)))) (zj (psJ 3 nd zc) (zj (zg9 (by passes_own) (ql zo2 (pvJ 2) (peD L.toLv (ok_02 T) hr T.F_02 (zb (pvJ 1) (zb (pvJ 3) ze zg) zg)) (yu _)) (zj (u5 (i:=2) nd rfl (Or.inl rfl) (peD L.toLv (ok_02 T) hr T.F_02 (zb (pvJ 1) (zb (pvJ 3) ze zg) zg)) zjk) (zq (u5 (i:=3) nd rfl (Or.inl rfl) zc zjj)))) (zq (zD (zom (zb (pvJ 1) (zb (pvJ 3) (zb (zh zO (pvJ 2) zc) ze zM) zg) zg))))))))),?_⟩;open_k0;split
 ·exact q2 (λz=>by obtain⟨_,_⟩:=z;omega)
 split
 ·exact q2 (λz=>by obtain⟨_,_⟩:=z;omega)
 have n0:0<=n:=by omega
 have n1:n<=3652058:=by omega
 have q:=q1 ⟨n0,n1⟩;obtain⟨y1,y2,y3,y4⟩:=Cal.yearOf_spec n0 n1;refine⟨n,rfl,λH1 sm=>⟨_,rfl,_,rfl,?_⟩⟩;refine⟨λk σ1 H2=>H2=H1/\ ∃m:Int,σ1= [some (.int n),some (.int (Cal.yearOf n)),some (.int (n - Cal.ahead (Cal.yearOf n) - Cal.cum (Cal.yearOf n) m)),some (.int m)]/\1<=m/\m<=12/\Cal.cum (Cal.yearOf n) m<=n - Cal.ahead (Cal.yearOf n)/\k=(13 - m).toNat,⟨12,rfl,1,?_,'d','d',by rw[Cal.cum_one];omega,'d'⟩,?_⟩
 ·rw[Cal.cum_one,Int.sub_zero]
 ·rintro k σ1 H2 ⟨rfl,m,rfl,m1,m2,m3,rfl⟩;open_k0;refine⟨_,m,rfl,λ_=> ?_,λno=>absurd ⟨y1,y2,m1,m2⟩ no⟩;open_k0;split
  ·rename_i c;have lt:m<12:=by
    apply Classical.byContradiction;intro z;obtain rfl:m=12:=by omega
    have s:=Cal.cum_succ (y:=Cal.yearOf n) (m:=12) 'd' 'd';have u:Cal.cum (Cal.yearOf n) (12+1)=365+Cal.lp (Cal.yearOf n):=Cal.cum_13 _;omega
   have s:=Cal.cum_succ (y:=Cal.yearOf n) m1 m2;refine⟨_,λσ2 H3 h=>h,?_⟩;refine⟨_,m,rfl,λ_=> ?_,λno=>absurd ⟨y1,y2,m1,m2⟩ no⟩;open_k0;exact⟨(13 - (m+1)).toNat,'o',m+1,'o',rfl,'o','o','o',rfl⟩
  ·rename_i c;open_k0;intro p hp;have s:=Cal.cum_succ (y:=Cal.yearOf n) m1 m2;refine q (Cal.yearOf n) m (n - Cal.ahead (Cal.yearOf n) - Cal.cum (Cal.yearOf n) m+1) p _ ⟨y1,y2,m1,m2,'o','o'⟩ (by unfold Cal.num;omega) (sm.trans (yP hp _)) zF
def ziH(t:Adr):Sp:=λvs H Q E=> ∃n k y m d:Int,vs= [.int n, .int k]/\Cal.Valid y m d/\Cal.num y m d=n/\
 (Cal.MonOk y m k-> ∀H',zk H H'->Q (.int (Cal.num (Cal.monY y m k) (Cal.monM y m k) (Cal.monD y m d k))) H')/\(¬Cal.MonOk y m k-> ∀H',zk H H'->E (.ref t.c_Z05) none H')
theorem sc_07:FnScope ["number","many","year","month","day","months","to_year","to_month"] ["number","many"] (zE s_07):=by sl_open
theorem ok_07(T:Txt w K mg t):FnOk P w K mg base (CXE P w) 4 t.a_07 t.d_07 ["number","many"] (ziH t):=by
 refine T.F_07.fn.okX sc_07 ?_ λcdv A outer s H vs Q E L hr h=> ?_
 ·kdl_open
 obtain⟨n,k,y,m,d,rfl,va,hn,q1,q2⟩:=h;have nd:=sc_07.nd;refine⟨_,(zj (yB (peD L.toLv (ok_06 T) hr T.F_06 (zb (pvJ 0) ze)) (zZ (n:=3) rfl (zH (zr (i:=2) nd rfl (Or.inl rfl)) (zH (zr (i:=3) nd rfl (Or.inl rfl)) (zH (zr (i:=4) nd rfl (Or.inl rfl)) yF))))) (zj (psJ 5 nd (zh zO (zh zX (zh zO (zh qt (pvJ 2) zc) (pvJ 3)) zc) (pvJ 1))) (zj (psJ 6 nd (zh yQ (pvJ 5) zc)) (zj (psJ 7 nd (zh zO (zh zK (pvJ 5) zc) zc)) (zq (zD (peD L.toLv (ok_04 T) hr T.F_04 (zb (pvJ 6) (zb (pvJ 7) (zb (ye (xu (by rfl)) (by rfl) T.no_min xA (zb (pvJ 4) (zb (peD L.toLv (ok_02 T) hr T.F_02 (zb (pvJ 6) (zb (pvJ 7) ze zg) zg)) ze yI) zg)) ze yI) zg) zg)))))))),?_⟩;open_k0;have nr:=Cal.num_range va;refine⟨_,rfl,λ_ y' m' d' p H1 va' hn' s1 hp=> ?_,λno=>absurd 'o' no⟩;obtain⟨rfl,rfl,rfl⟩:=Cal.num_inj va' va (by rw[hn',hn]);refine⟨p,_,rfl,SqT.of hp,rfl,?_⟩;open_k0;refine⟨Or.inr ⟨'d','d'⟩,_,_,rfl,λok=> ?_,λno=>q2 (λz=>no ⟨z.1,z.2,'o','o'⟩) _ s1⟩;obtain⟨o1,o2,o3,o4⟩:=ok;have mo:Cal.MonOk y' m' k:=⟨o1,o2⟩
 exact⟨_,rfl,_,_,_,rfl,λ_=>q1 mo _ s1,λno=>absurd (Cal.mon_valid va mo) no⟩
def vB(K:Fg)(H:Hp)(p:Addr)(dy:Bool)(c:Int):Prop:=SqT K H p [.str (SL (if dy then [100,97,121,115] else [109,111,110,116,104,115])), .int c]/\Cal.CycOk dy c
theorem vB.same{p:Addr}(h:vB K H p dy c)(sm:zk H H'):vB K H' p dy c:=⟨sm.sqT h.1,h.2⟩
def zjw(K:Fg)(t:Adr):Sp:=λvs H Q E=> ∃(f:Int) (p:Addr) (dy:Bool) (c k:Int),vs= [.int f, .ref p, .int k]/\0<=f/\f<=3500000/\vB K H p dy c/\
 (0<=k->k<=60-> ∀H',zk H H'->Q (.int (Cal.beg f dy c k)) H')/\(k<0-> ∀H',zk H H'->E (.ref t.c_Z06) none H')/\(60<k-> ∀H',zk H H'->E (.ref t.c_Z0c) none H')
theorem sc_08:FnScope ["first","cycle","k","word","many"] ["first","cycle","k"] (zE s_08):=by sl_open
theorem ok_08(T:Txt w K mg t):FnOk P w K mg base (CXE P w) 5 t.a_08 t.d_08 ["first","cycle","k"] (zjw K t):=by
 refine T.F_08.fn.okX sc_08 ?_ λcdv A outer s H vs Q E L hr h=> ?_
 ·kdl_open
 obtain⟨f,p,dy,c,k,rfl,f0,f1,hc,q1,q2,q3⟩:=h;have nd:=sc_08.nd;obtain⟨u_Z09,h_Z09,r_Z09⟩:=T.k_Z09;refine⟨_,(zj (zP (yp qy (pvJ 2) zc) (zq (wy L T.ex_Z06 (by rfl) (by rfl) T.mg_Z06 (zb xG ze))) zR) (zj (zP (yp q5 (pvJ 2) (qO (by rfl) h_Z09 r_Z09)) (zq (wy L T.ex_Z0c (by rfl) (by rfl) T.mg_Z0c (zb xG ze))) zR) (zj (yB (pvJ 1) (zZ (n:=2) rfl (zH (zr (i:=3) nd rfl (Or.inl rfl)) (zH (zr (i:=4) nd rfl (Or.inl rfl)) yF)))) (zj (zP (qe (pvJ 3) (zI st_4)) (zq (zD (peD L.toLv (ok_07 T) hr T.F_07 (zb (pvJ 0) (zb (zh qt (pvJ 2) (pvJ 4)) ze zM) zg)))) zR) (zq (zD (zh zO (pvJ 0) (zh qt (pvJ 2) (pvJ 4))))))))),?_⟩;open_k0;split
 ·rename_i h;exact q2 h _ (zk.refl _)
 rename_i h0;split
 ·rename_i h;exact q3 h _ (zk.refl _)
 rename_i h1;have q:=q1 'o' 'o';refine⟨p,_,rfl,hc.1,rfl,?_⟩;open_k0;obtain⟨c0,c1⟩:=hc.2;cases dy with
 |true=>
  rw[Jf 'd'];rw[Jg rfl] at c1;refine⟨.inl ⟨'o','o'⟩,?_⟩;exact q H (zk.refl _)
 |false=>
  rw[Jg 'd'];rw[Jf 'd'] at c1;obtain⟨y,m,d,va,hn⟩:=Cal.date_exists f0 (show f<=3652058 by omega);have mb:=Cal.mul_bound c0 c1 (show 0<=k by omega) (show k<=60 by omega);have mo:=Cal.mon_ok va 'o' mb.1 mb.2;refine⟨.inl ⟨'o','o'⟩,f,k*c,y,m,d,rfl,va,hn,λ_ H' s'=> ?_,λno=>absurd mo no⟩;have e:Cal.beg f false c k=Cal.num (Cal.monY y m (k*c)) (Cal.monM y m (k*c)) (Cal.monD y m d (k*c)):=by
   unfold Cal.beg;rw[Jf 'd',<-hn,Cal.mon_eq va]
  rw[<-e];exact q H' s'
def zl5(K:Fg)(t:Adr):Sp:=λvs H Q E=> ∃(f:Int) (p:Addr) (dy:Bool) (c d:Int),vs= [.int f, .ref p, .int d]/\0<=f/\f<=3500000/\vB K H p dy c/\
 (∀k:Int,0<=k->k<60->Cal.beg f dy c k<=d->d<Cal.beg f dy c (k+1)-> ∀p H',zk H H'->H' p=some (.tup [.int k, .int (Cal.beg f dy c k), .int (Cal.beg f dy c (k+1))])->Q (.ref p) H')/\
 (d<f-> ∀H',zk H H'->E (.ref t.c_Z06) none H')/\(Cal.beg f dy c 60<=d-> ∀H',zk H H'->E (.ref t.c_Z0c) none H')
theorem sc_09:FnScope ["first","cycle","day","low","high","middle"] ["first","cycle","day"] (zE s_09):=by sl_open
theorem ok_09(T:Txt w K mg t):FnOk P w K mg base (CXE P w) 6 t.a_09 t.d_09 ["first","cycle","day"] (zl5 K t):=by
 refine T.F_09.fn.okX sc_09 ?_ λcdv A outer s H vs Q E L hr h=> ?_
 ·kdl_open
 obtain⟨f,p,dy,c,d,rfl,f0,f1,hc,q1,q2,q3⟩:=h;have nd:=sc_09.nd;obtain⟨u_Z09,h_Z09,r_Z09⟩:=T.k_Z09;refine⟨_,(zj (zP (yp qy (pvJ 2) (pvJ 0)) (zq (wy L T.ex_Z06 (by rfl) (by rfl) T.mg_Z06 (zb xG ze))) zR) (zj (zP (yp znG (pvJ 2) (peD L.toLv (ok_08 T) hr T.F_08 (zb (pvJ 0) (zb (pvJ 1) (zb (qO (by rfl) h_Z09 r_Z09) ze zg) zg) zg))) (zq (wy L T.ex_Z0c (by rfl) (by rfl) T.mg_Z0c (zb xG ze))) zR) (zj (psJ 3 nd zc) (zj (psJ 4 nd (qO (by rfl) h_Z09 r_Z09)) (zj (zg9 (by passes_own) (ql zlE (zh zX (pvJ 4) (pvJ 3)) zc (yu _)) (zj (psJ 5 nd (zh yQ (zh zO (pvJ 3) (pvJ 4)) zc)) (zq (zP (yp qy (pvJ 2) (peD L.toLv (ok_08 T) hr T.F_08 (zb (pvJ 0) (zb (pvJ 1) (zb (pvJ 5) ze zg) zg) zg))) (zq (psJ 4 nd (pvJ 5))) (zq (psJ 3 nd (pvJ 5))))))) (zq (zD (zN (zb (pvJ 3) (zb (peD L.toLv (ok_08 T) hr T.F_08 (zb (pvJ 0) (zb (pvJ 1) (zb (pvJ 3) ze zg) zg) zg)) (zb (peD L.toLv (ok_08 T) hr T.F_08 (zb (pvJ 0) (zb (pvJ 1) (zb (pvJ 4) ze zg) zg) zg)) ze yI) yI) zg))))))))),?_⟩;open_k0;split
 ·rename_i h;exact q2 h _ (zk.refl _)
 rename_i h0;refine⟨f,p,dy,c,60,rfl,f0,f1,hc,λ_ _ H1 s1=> ?_,λz=>absurd z 'd',λz=>absurd z 'd'⟩;try open_k0
 split
 ·rename_i h;exact q3 h _ s1
 rename_i h1;have b0:Cal.beg f dy c 0=f:=Cal.beg_zero f0 f1;obtain⟨Pv,hPv⟩: ∃Pv:St->Hp->Prop,Pv=λσ1 H2=>zk H H2/\ ∃(lo hi:Int) (x5:Option V),0<=lo/\lo<hi/\hi<=60/\Cal.beg f dy c lo<=d/\d<Cal.beg f dy c hi/\σ1= [some (.int f),some (.ref p),some (.int d),some (.int lo),some (.int hi),x5]:=⟨_,rfl⟩
 obtain⟨mu,hmu⟩: ∃mu:St->Hp->Nat,mu=λσ1 _=>(match σ1 with| [_,_,_,some (.int lo),some (.int hi),_]=>(hi - lo).toNat|_=>0):=⟨_,rfl⟩
 refine zkr Pv mu (by rw[hPv];exact⟨s1,0,60,_,'d','d','d','o','o',rfl⟩) (λσ1 H2 h=> ?_) ?_
 ·rw[hPv] at h;obtain⟨s2,lo,hi,x5,l0,lh,l1,d0,d1,rfl⟩:=h;open_k0;split
  ·rename_i c2;have m0:lo<(lo+hi) / 2/\(lo+hi) / 2<hi:=by omega
   generalize (lo+hi) / 2=mi at m0 ⊢;refine⟨f,p,dy,c,mi,rfl,f0,f1,hc.same s2,λ_ _ H3 s3=> ?_,λz=>absurd z 'o',λz=>absurd z 'o'⟩;try open_k0
   split
   ·rename_i dm;rw[hPv,hmu];exact⟨⟨s2.trans s3,lo,mi,_,l0,m0.1,'o',d0,dm,rfl⟩,by show (mi - lo).toNat<(hi - lo).toNat;omega⟩
   ·rename_i dm;rw[hPv,hmu];exact⟨⟨s2.trans s3,mi,hi,_,'o',m0.2,l1,'o',d1,rfl⟩,by show (hi - mi).toNat<(hi - lo).toNat;omega⟩
  ·rename_i c2;obtain rfl:hi=lo+1:=by omega
   refine⟨f,p,dy,c,lo,rfl,f0,f1,hc.same s2,λ_ _ H3 s3=> ?_,λz=>absurd z 'o',λz=>absurd z 'o'⟩;try open_k0
   refine⟨f,p,dy,c,lo+1,rfl,f0,f1,(hc.same s2).same s3,λ_ _ H4 s4=> ?_,λz=>absurd z 'o',λz=>absurd z 'o'⟩;try open_k0
   intro p5 H5 _ s5 e5;exact q1 lo l0 'o' d0 d1 p5 H5 (((s2.trans s3).trans s4).trans s5) e5
 ·intro σ1 H1 Q1 Q2 hm h;first
   |(obtain⟨x,hx,y,hy,i,j,e1,e2,i2,j2,e3,e4,k,e5,r⟩:=h
     exact⟨x,hx,y,hy,i,j,e1,e2,i2,j2,e3,e4,k,e5,hm _ _ r⟩)
   |(dsimp only[wS,tOp,uc,tC,rJ0,zhK,zlw] at h ⊢
     simp only[u0,wx] at h ⊢;obtain⟨x,hx,y,hy,i,e1,j,e2,r⟩:=h;exact⟨x,hx,y,hy,i,e1,j,e2,hm _ _ r⟩)
theorem z5(v:V)(r:List V):atI (v::r) 0=some v:=xf (j:=0) rfl
theorem yY(u v:V)(r:List V):atI (u::v::r) 1=some v:=xf (j:=1) rfl
theorem wZ(u v x:V)(r:List V):atI (u::v::x::r) 2=some x:=xf (j:=2) rfl
theorem zq3(u v x y:V)(r:List V):atI (u::v::x::y::r) 3=some y:=xf (j:=3) rfl
theorem uj{f c d:Int}{dy:Bool}(b0:Cal.beg f dy c 0<=d): ∀n:Nat,d<Cal.beg f dy c n-> ∃k:Int,0<=k/\k<n/\Cal.beg f dy c k<=d/\d<Cal.beg f dy c (k+1)
 |0,h=>absurd h (by have:Cal.beg f dy c ((0:Nat):Int)=Cal.beg f dy c 0:=rfl;omega)
 |n+1,h=>by
  by_cases z:d<Cal.beg f dy c n
  ·obtain⟨k,h1,h2,h3,h4⟩:=uj b0 n z;exact⟨k,h1,'o',h3,h4⟩
  ·exact⟨n,'o','o','o',h⟩
def qS(K:Fg)(H:Hp)(p:Addr)(l:Addr)(f:Int)(dy:Bool)(cc:Int):Prop:= ∃pc,0<=f/\f<=3500000/\vB K H pc dy cc/\H p=some (.tup [.ref l, .int f, .ref pc])
theorem qS.same{K:Fg}{H H':Hp}{p l:Addr}{f:Int}{dy:Bool}{cc:Int}(h:qS K H p l f dy cc)(s:zk H H'):qS K H' p l f dy cc:=
 let ⟨pc,h1,h2,h3,h4⟩:=h;⟨pc,h1,h2,h3.same s,s _ _ h4⟩
theorem qS.cyc{p:Addr}{f:Int}{cc:Int}(h:qS K H p l f dy cc):0<=f/\f<=3500000/\Cal.CycOk dy cc:=let ⟨_,h1,h2,h3,_⟩:=h;⟨h1,h2,h3.2⟩
theorem zfE{f k:Int}(f0:0<=f)(f1:f<=3500000)(hc:Cal.CycOk dy c)(k0:0<=k)(k1:k<60):0<=Cal.beg f dy c k/\Cal.beg f dy c k<Cal.beg f dy c (k+1)/\Cal.beg f dy c (k+1)<4000000:=by
 have a1:=Cal.beg_lt (k:=k) (j:=k+1) f0 f1 hc k0 'o' 'o';have a2:=Cal.beg_ge (k:=k) f0 f1 hc k0 'o';have a3:=Cal.beg_range (k:=k+1) f0 f1 hc 'o' 'o';exact⟨'o',a1,'o'⟩
def ziJ(K:Fg)(t:Adr):Sp:=λvs H Q E=> ∃(pa l:Addr) (f:Int) (dy:Bool) (c k:Int),vs= [.ref pa, .int k]/\qS K H pa l f dy c/\(0<=k->k<60-> ∀p H',zk H H'->H' p=some (.tup [.int (Cal.beg f dy c k), .int (Cal.beg f dy c (k+1))])->Q (.ref p) H')/\(k<0-> ∀H',zk H H'->E (.ref t.c_Z06) none H')/\(60<=k-> ∀H',zk H H'->E (.ref t.c_Z0c) none H')
theorem sc_0a:FnScope ["account","k","plans","first","cycle"] ["account","k"] (zE s_0a):=by sl_open
theorem ok_0a(T:Txt w K mg t):FnOk P w K mg base (CXE P w) 6 t.a_0a t.d_0a ["account","k"] (ziJ K t):=by
 refine T.F_0a.fn.okX sc_0a ?_ λcdv A outer s H vs Q E L hr h=> ?_
 ·kdl_open
 obtain⟨pa,l,f,dy,c,k,rfl,⟨pc,f0,f1,hc,ep⟩,q,q2,q3⟩:=h;have nd:=sc_0a.nd;refine⟨_,(zj (yB (pvJ 0) (zZ (n:=3) rfl (zH (zr (i:=2) nd rfl (Or.inl rfl)) (zH (zr (i:=3) nd rfl (Or.inl rfl)) (zH (zr (i:=4) nd rfl (Or.inl rfl)) yF))))) (zq (zD (zN (zb (peD L.toLv (ok_08 T) hr T.F_08 (zb (pvJ 3) (zb (pvJ 4) (zb (pvJ 1) ze zg) zg) zg)) (zb (peD L.toLv (ok_08 T) hr T.F_08 (zb (pvJ 3) (zb (pvJ 4) (zb (zh zO (pvJ 1) zc) ze zM) zg) zg)) ze yI) yI))))),?_⟩;open_k0;refine⟨pa,_,rfl,SqT.of ep,rfl,?_⟩;open_k0;refine⟨f,pc,dy,c,k,rfl,f0,f1,hc,λk0 _ H1 s1=> ?_,q2,λz=>q3 'o'⟩;refine⟨f,pc,dy,c,k+1,rfl,f0,f1,hc.same s1,λ_ k1 H2 s2=> ?_,λz=>by omega,λz H3 s3=>q3 'o' H3 (s1.trans s3)⟩;exact λp H3 _ s3 e3=>q k0 'o' p H3 ((s1.trans s2).trans s3) e3
def ziK(K:Fg)(t:Adr):Sp:=λvs H Q E=> ∃(pa l:Addr) (f:Int) (dy:Bool) (c d:Int),vs= [.ref pa, .int d]/\qS K H pa l f dy c/\
 (∀k:Int,0<=k->k<60->Cal.beg f dy c k<=d->d<Cal.beg f dy c (k+1)-> ∀p H',zk H H'->H' p=some (.tup [.int k, .int (Cal.beg f dy c k), .int (Cal.beg f dy c (k+1))])->Q (.ref p) H')/\
 (d<f-> ∀H',zk H H'->E (.ref t.c_Z06) none H')/\(Cal.beg f dy c 60<=d-> ∀H',zk H H'->E (.ref t.c_Z0c) none H')
theorem sc_0b:FnScope ["account","day","plans","first","cycle"] ["account","day"] (zE s_0b):=by sl_open
theorem ok_0b(T:Txt w K mg t):FnOk P w K mg base (CXE P w) 7 t.a_0b t.d_0b ["account","day"] (ziK K t):=by
 refine T.F_0b.fn.okX sc_0b ?_ λcdv A outer s H vs Q E L hr h=> ?_
 ·kdl_open
 obtain⟨pa,l,f,dy,c,d,rfl,⟨pc,f0,f1,hc,ep⟩,q1,q2,q3⟩:=h;have nd:=sc_0b.nd;refine⟨_,(zj (yB (pvJ 0) (zZ (n:=3) rfl (zH (zr (i:=2) nd rfl (Or.inl rfl)) (zH (zr (i:=3) nd rfl (Or.inl rfl)) (zH (zr (i:=4) nd rfl (Or.inl rfl)) yF))))) (zq (zD (peD L.toLv (ok_09 T) hr T.F_09 (zb (pvJ 3) (zb (pvJ 4) (zb (pvJ 1) ze zg) zg) zg))))),?_⟩;open_k0;refine⟨pa,_,rfl,SqT.of ep,rfl,?_⟩;open_k0;exact⟨f,pc,dy,c,d,rfl,f0,f1,hc,q1,q2,q3⟩
theorem zfF(ch:Ch)(h:yL ch=true): ∃r,(chD ch).map sv= .str (SL (chW ch)):: .int (qf ch)::r:=by
 cases ch with
 |plan d nm=>exact⟨_,rfl⟩
 |seats d n=>exact⟨_,rfl⟩
 |word w d=>exact⟨_,rfl⟩
 |undo k=>cases h
 |grant k=>cases h
 |back=>cases h
theorem zl6(h:yL ch=true)(w4: ∀w d,ch= .word w d->w<4):(chW ch= [108,97,115,116]↔zlQ ch=true):=by
 cases ch with
 |plan d nm=>exact⟨λz=>absurd z (by show¬([112,108,97,110]:List Nat)=_;decide),λz=>by cases z⟩
 |seats d n=>exact⟨λz=>absurd z (by show¬([115,101,97,116,115]:List Nat)=_;decide),λz=>by cases z⟩
 |word w d=>
  have:=w4 w d rfl;match w,this with
  |0,_=>exact⟨λz=>absurd z (by show¬([104,111,108,100]:List Nat)=_;decide),λz=>by cases z⟩
  |1,_=>exact⟨λz=>absurd z (by show¬([103,111]:List Nat)=_;decide),λz=>by cases z⟩
  |2,_=>exact⟨λz=>absurd z (by show¬([115,116,111,112]:List Nat)=_;decide),λz=>by cases z⟩
  |3,_=>exact⟨λ_=>rfl,λ_=>rfl⟩
 |undo k=>cases h
 |grant k=>cases h
 |back=>cases h
def TmB(f e:Int)(ch:Ch):Prop:=yL ch=true/\f<=qf ch/\qf ch<e/\ ∀w d,ch= .word w d->w<4
def zl7(K:Fg):Sp:=λvs H Q _=> ∃(pa p l:Addr) (f:Int) (dy:Bool) (c:Int) (ch:Ch),vs= [.ref pa, .ref p]/\qS K H pa l f dy c/\SqT K H p ((chD ch).map sv)/\TmB f (Cal.beg f dy c 60) ch/\ ∀H',zk H H'->Q (.int (cntF f dy c ch)) H'
theorem sc_0d:FnScope ["account","change","own_day","k","begin","end"] ["account","change"] (zE s_0d):=by sl_open
theorem ok_0d(T:Txt w K mg t):FnOk P w K mg base (CXE P w) 8 t.a_0d t.d_0d ["account","change"] (zl7 K):=by
 refine T.F_0d.fn.okX sc_0d ?_ λcdv A outer s H vs Q E L hr h=> ?_
 ·kdl_open
 obtain⟨pa,p,l,f,dy,c,ch,rfl,ha,hp,⟨tm,d0,d1,w4⟩,q⟩:=h;have nd:=sc_0d.nd;refine⟨_,(zj (psJ 2 nd (ixJ zQ (pvJ 1) zc)) (zj (zP (qe (ixJ zQ (pvJ 1) zc) (zI st_9)) (zj (yB (peD L.toLv (ok_0b T) hr T.F_0b (zb (pvJ 0) (zb (pvJ 2) ze zg) zg)) (zZ (n:=3) rfl (zH (zr (i:=3) nd rfl (Or.inl rfl)) (zH (zr (i:=4) nd rfl (Or.inl rfl)) (zH (zr (i:=5) nd rfl (Or.inl rfl)) yF))))) (zq (zD (pvJ 5)))) zR) (zq (zD (pvJ 2))))),?_⟩;obtain⟨r,er⟩:=zfF ch tm;rw[er] at hp;have lw:=zl6 tm w4;unfold cntF at q;open_k0;refine ixT hp (yY _ _ _) (ixT hp (z5 _ _) ⟨rfl,?_⟩);by_cases e:chW ch= [108,97,115,116]
 ·rw[Jg (lw.mp e)] at q;obtain⟨f0,f1,hc⟩:=ha.cyc;refine qW (by rw[e]) ⟨pa,l,f,dy,c,_,rfl,ha,λk k0 k1 a1 a2 p1 H1 s1 e1=> ?_,λz=>by omega,λz=>by omega⟩;rw[<-znW f0 f1 hc k0 k1 a1 a2] at e1;refine⟨p1,_,rfl,SqT.of e1,rfl,?_⟩;open_k0;exact q H1 s1
 ·rw[Jf (λz=>e (lw.mpr z))] at q;exact zW (yD e) (q _ (zk.refl _))
theorem zpA{f:Int}(f0:0<=f)(f1:f<=3500000)(hc:Cal.CycOk dy c)(h:TmB f (Cal.beg f dy c 60) ch):0<=cntF f dy c ch/\cntF f dy c ch<4000000:=by
 obtain⟨tm,d0,d1,w4⟩:=h;have b6:=Cal.beg_range (k:=60) f0 f1 hc 'd' 'd';unfold cntF;split
 ·have b0:Cal.beg f dy c 0=f:=Cal.beg_zero f0 f1;obtain⟨k,k0,k1,a1,a2⟩:=uj (f:=f) (c:=c) (dy:=dy) (d:=qf ch) 'o' 60 d1;rw[znW f0 f1 hc k0 k1 a1 a2]
  have:=Cal.beg_range (k:=k+1) f0 f1 hc 'o' 'o';omega
 ·omega
abbrev Tm:=Addr×Addr×Int×Ch
def jt(K:Fg)(H:Hp)(f e:Int)(t:Tm):Prop:=(H t.1=some (.tup [.int t.2.2.1, .ref t.2.1])/\SqT K H t.2.1 ((chD t.2.2.2).map sv))/\(0<=t.2.2.1/\t.2.2.1<64)/\TmB f e t.2.2.2
def xT(K:Fg)(H:Hp)(l:Addr)(f e:Int)(ts:List Tm):Prop:=H l=some (.lst (ts.map λt=>V.ref t.1))/\ts.length<64/\(∀t∈ts,jt K H f e t)/\ts.Pairwise (λx y=>x.2.2.1≠y.2.2.1)
theorem jt.same{f:Int}{t:Tm}(h:jt K H f e t)(s:zk H H'):jt K H' f e t:=⟨⟨s _ _ h.1.1,s.sqT h.1.2⟩,h.2⟩
theorem xT.same{K:Fg}{H H':Hp}{l:Addr}{f e:Int}{ts:List Tm}(h:xT K H l f e ts)(s:zk H H'):xT K H' l f e ts:=⟨s _ _ h.1,h.2.1,λt ht=>(h.2.2.1 t ht).same s,h.2.2.2⟩
theorem zl8{β:Type}{g:α->β}{ws l:List β}(h:ws.Perm l): ∀os:List α,l=os.map g-> ∃os':List α,os'.Perm os/\os'.map g=ws:=by
 induction h with
 |nil=>intro os e;exact⟨os, .refl _,e.symm⟩
 |cons x _ ih=>
  intro os e;match os,e with
  |o::r,e=>
   obtain⟨e1,e2⟩:=List.cons.inj e;obtain⟨r',p,m⟩:=ih r e2;exact⟨o::r',p.cons o,by rw[JA,m,e1]⟩
 |swap x y l=>
  intro os e;match os,e with
  |a::b::r,e=>
   obtain⟨e1,e2⟩:=List.cons.inj e;obtain⟨e3,e4⟩:=List.cons.inj e2;exact⟨b::a::r, .swap a b r,by rw[JA,JA,e1,e3,e4]⟩
 |trans _ _ ih1 ih2=>
  intro os e;obtain⟨os2,p2,m2⟩:=ih2 os e;obtain⟨os1,p1,m1⟩:=ih1 os2 m2.symm;exact⟨os1,p1.trans p2,m1⟩
noncomputable def rtT(f:Int)(dy:Bool)(c:Int)(t:Tm):Rt:=rtF f dy c t.2.2.1 t.2.2.2
abbrev Or':=Addr×Tm
def w6(K:Fg)(H:Hp)(l:Addr)(f:Int)(dy:Bool)(c:Int)(os:List Or'):Prop:=H l=some (.lst (os.map λo=>V.ref o.1))/\os.length<64/\(∀o∈os,H o.1=some (.tup [.int (cntF f dy c o.2.2.2.2), .int (qf o.2.2.2.2), .int o.2.2.2.1, .ref o.2.2.1])/\SqT K H o.2.2.1 ((chD o.2.2.2.2).map sv)/\TmB f (Cal.beg f dy c 60) o.2.2.2.2)/\os.Pairwise (λx y=>cntF f dy c x.2.2.2.2<=cntF f dy c y.2.2.2.2/\(rtT f dy c x.2).2.2.1<(rtT f dy c y.2).2.2.1)
def zj9(K:Fg):Sp:=λvs H Q _=> ∃(pa l la:Addr) (f:Int) (dy:Bool) (c:Int) (ts:List Tm),vs= [.ref pa, .ref l]/\qS K H pa la f dy c/\xT K H l f (Cal.beg f dy c 60) ts/\ ∀l' os H',zk H H'->w6 K H' l' f dy c os->(∀t,t∈os.map (·.2)↔t∈ts)->Q (.ref l') H'
theorem sc_0e:FnScope ["account","terms"] ["account","terms"] (zE s_0e):=by sl_open
theorem ok_0e(T:Txt w K mg t):FnOk P w K mg base (CXE P w) 9 t.a_0e t.d_0e ["account","terms"] (zj9 K):=by
 refine T.F_0e.fn.okX sc_0e ?_ λcdv A outer s H vs Q E L hr h=> ?_
 ·kdl_open
 obtain⟨pa,l,la,f,dy,c,ts,rfl,ha,ht,q⟩:=h;have nd:=sc_0e.nd;refine⟨_,(zq (zD (ye zgN (by rfl) T.no_sorted uF (zb (xB (n:=2) (N:= ["number","change","account"]) (js:= [0]) (by rfl) rfl rfl (qo (pvJ 1)) (λa=>(zZ (n:=2) rfl (yt (zr (i:=0) (show List.Nodup (["number","change","account"]:List Str) from by decide+kernel) rfl (Or.inl rfl)) (yt (zr (i:=1) (show List.Nodup (["number","change","account"]:List Str) from by decide+kernel) rfl (Or.inl rfl)) qT)))) (λa=>xL) (λa=>(zN (zb (peD wL (ok_0d T) hr T.F_0d (zb (pvJ 2) (zb (pvJ 1) ze zg) zg)) (zb (ixJ zQ (pvJ 1) zc) (zb (pvJ 0) (zb (pvJ 1) ze zg) zg) yf) yI)))) ze)))),?_⟩;obtain⟨f0,f1,hc⟩:=ha.cyc;have b6:=Cal.beg_range (k:=60) f0 f1 hc 'd' 'd';obtain⟨el,n64,hts,hn⟩:=id ht;open_k0;first|refine⟨l,rfl,⟨_,SqL.of el⟩,λl2 hl2 aa=> ?_⟩|refine⟨_,rfl,l,rfl,⟨_,SqL.of el⟩,λl2 hl2 aa=> ?_⟩
 refine qQ (λj xs H5=> ∃as:List Addr,xs=as.map V.ref/\as.length=j/\ ∀(i:Nat) (a:Addr) (t:Tm),as[i]? =some a->ts[i]? =some t->H5 a=some (.tup [.int (cntF f dy c t.2.2.2), .int (qf t.2.2.2), .int t.2.2.1, .ref t.2.1])) (xZ (SqL.of el)) hl2 (by rw[Ja];exact qj 'o') (λ_ _=>⟨[],rfl,rfl,λi a t h=>by rw[List.getElem?_nil] at h;cases h⟩) (λj x xs H8 K1 K0 hx sm pv hl k1 k0=> ?_) (λxs H2 s2 pv _ w2=> ?_)
 ·obtain⟨u,hz,rfl⟩: ∃u,ts[j]? =some u/\x= .ref u.1:=by
   rw[Jh] at hx;obtain⟨u,e,rfl⟩:=Jk.mp hx;exact⟨u,e,rfl⟩
  obtain⟨⟨z1,z2⟩,zn,tb⟩:=hts u (Ji hz);obtain⟨as,rfl,al,pa'⟩:=pv;obtain⟨r,er⟩:=zfF u.2.2.2 tb.1;open_k0;refine⟨_,_,rfl,SqT.of (sm _ _ z1),rfl,?_⟩;open_k0;refine⟨pa,u.2.1,la,f,dy,c,u.2.2.2,rfl,ha.same sm,sm.sqT z2,tb,λH9 s9=> ?_⟩;rw[er] at z2;refine ixT (s9.sqT (sm.sqT z2)) (yY _ _ _) (show New _ _ _ from λp H10 hp s10 e10=>k1 _ _ (s9.trans s10) λH5 h5=>⟨as++ [p],by rw[Jd];rfl,by rw[Jj,al];rfl,λi a t h1 h2=> ?_⟩);have s810:=s9.trans s10;have nl: ∀a xs,H10 a=some (.tup xs)->a≠l2:=λa xs h z=>by rw[z,s810 _ _ hl] at h;cases h
  rw[List.getElem?_append] at h1;by_cases hi:i<as.length
  ·rw[Jg hi] at h1
   have:=s810 _ _ (pa' i a t h1 h2);exact h5 _ _ (nl _ _ this) this
  ·rw[Jf hi] at h1;have i0:i - as.length=0:=by
    rcases Nat.lt_or_ge (i - as.length) 1 with z|z
    ·omega
    ·rw[List.getElem?_eq_none (by simpa using z)] at h1;cases h1
   rw[i0] at h1;cases h1;obtain rfl:i=j:=by omega
   rw[hz] at h2;cases h2;exact h5 _ _ (nl _ _ e10) e10
 rw[Ja] at pv;obtain⟨as,rfl,al,pa'⟩:=pv;obtain⟨os,hos⟩: ∃os:List Or',os=as.zip ts:=⟨_,rfl⟩
 have om: ∀o∈os,∃i:Nat,as[i]? =some o.1/\ts[i]? =some o.2:=λo ho=>by
  rw[hos] at ho;obtain⟨i,hi,e⟩:=List.mem_iff_getElem.mp ho;rw[List.length_zip] at hi;refine⟨i,?_,?_⟩
  ·rw[Jb 'o',<-e,List.getElem_zip]
  ·rw[Jb 'o',<-e,List.getElem_zip]
 have ol:os.length=ts.length:=by rw[hos,List.length_zip,al,Nat.min_self]
 have o1:os.map (·.1)=as:=by rw[hos];exact List.map_fst_zip 'o'
 have o2:os.map (·.2)=ts:=by rw[hos];exact List.map_snd_zip 'o'
 have ob: ∀o∈os,H2 o.1=some (.tup [.int (cntF f dy c o.2.2.2.2), .int (qf o.2.2.2.2), .int o.2.2.2.1, .ref o.2.2.1])/\SqT K H2 o.2.2.1 ((chD o.2.2.2.2).map sv)/\TmB f (Cal.beg f dy c 60) o.2.2.2.2/\(0<=o.2.2.2.1/\o.2.2.2.1<64):=λo ho=>by
  obtain⟨i,h1,h2⟩:=om o ho;obtain⟨⟨z1,z2⟩,zn,tb⟩:=hts o.2 (Ji h2);exact⟨pa' i _ _ h1 h2,s2.sqT z2,tb,zn⟩
 obtain⟨zf,hzf⟩: ∃zf:Or'->Tz,zf=λo=>(o.1,cntF f dy c o.2.2.2.2,qf o.2.2.2.2,o.2.2.2.1):=⟨_,rfl⟩
 refine⟨l2,rfl,os.map zf,by rw[w2,List.map_map,<-o1,List.map_map,hzf];rfl,by rw[Ja];omega,λz hz=> ?_,?_,λws wp wo p H3 hp s3 e3=> ?_⟩
 ·obtain⟨o,ho,rfl⟩:=Jw.mp hz;obtain⟨a1,a2,a3,a4⟩:=ob o ho;have ci:=zpA f0 f1 hc a3;rw[hzf];exact⟨⟨ci,⟨by show 0<=qf o.2.2.2.2;have:=a3.2.1;omega,by show qf o.2.2.2.2<4000000;have:=a3.2.2.1;omega⟩,a4⟩,_,a1⟩
 ·rw[List.pairwise_map,hzf]
  have:=hn;rw[<-o2,List.pairwise_map] at this;exact this
 ·obtain⟨os',op,rfl⟩:=zl8 wp os rfl;refine q p os' H3 (s2.trans s3) ⟨by rw[e3,List.map_map,hzf];rfl,by rw[op.length_eq];omega,λo ho=> ?_,?_⟩ λt=> ?_
  ·obtain⟨a1,a2,a3,_⟩:=ob o (op.mem_iff.mp ho);exact⟨s3 _ _ a1,s3.sqT a2,a3⟩
  ·rw[List.pairwise_map,hzf] at wo;exact wo
  ·rw[(op.map (·.2)).mem_iff,o2]
theorem ziL: ∀{w:Nat},w<4->(qV w= [104,111,108,100]/\vy w= [104,101,108,100])\/(qV w= [103,111]/\vy w= [111,110])\/(qV w= [115,116,111,112]/\vy w= [111,102,102])\/(qV w= [108,97,115,116]/\vy w= [111,102,102])
 |0,_=> .inl ⟨rfl,rfl⟩
 |1,_=> .inr (.inl ⟨rfl,rfl⟩)
 |2,_=> .inr (.inr (.inl ⟨rfl,rfl⟩))
 |3,_=> .inr (.inr (.inr ⟨rfl,rfl⟩))
def on':D:= .str [111,110]
def stT(o0 o1 o2:Option Rt):List D:= [stV o0 .non,stV o1 (.int 1),stV o2 on']
def xo(f:Int)(dy:Bool)(c:Int)(ts:List Tm)(day:Int)(o0 o1 o2:Option Rt):Prop:=Bst (ts.map (rtT f dy c)) day 0 o0/\Bst (ts.map (rtT f dy c)) day 1 o1/\Bst (ts.map (rtT f dy c)) day 2 o2
def zka(K:Fg):Sp:=λvs H Q _=> ∃(l:Addr) (d:Int) (f:Int) (dy:Bool) (c:Int) (os:List Or'),vs= [.ref l, .int d]/\w6 K H l f dy c os/\ ∀p o0 o1 o2 H',zk H H'->xo f dy c (os.map (·.2)) d o0 o1 o2->H' p=some (.tup ((stT o0 o1 o2).map sv))->Q (.ref p) H'
theorem sc_0f:FnScope ["ordered","day","name","seats","word","counts","own_day","number","change"] ["ordered","day"] (zE s_0f):=by sl_open
theorem ok_0f(T:Txt w K mg t):FnOk P w K mg base (CXE P w) 1 t.a_0f t.d_0f ["ordered","day"] (zka K):=by
 refine T.F_0f.fn.okX sc_0f ?_ λcdv A outer s H vs Q E L hr h=> ?_
 ·kdl_open
 obtain⟨l,d,f,dy,c,os,rfl,ho,q⟩:=h;have nd:=sc_0f.nd;refine⟨_,(zj (psJ 2 nd zkh) (zj (psJ 3 nd zc) (zj (psJ 4 nd (zI st_10)) (zj (qp (by passes_own) rfl (qo (pvJ 0)) (zZ (n:=4) rfl (yt (zr (i:=5) nd rfl (Or.inl rfl)) (yt (zr (i:=6) nd rfl (Or.inl rfl)) (yt (zr (i:=7) nd rfl (Or.inl rfl)) (yt (zr (i:=8) nd rfl (Or.inl rfl)) qT))))) (zj (zP (yp q5 (pvJ 5) (pvJ 1)) (zq zkm) zR) (zq (zP (qe (ixJ zQ (pvJ 8) zc) (zI st_11)) (zq (psJ 2 nd (ixJ zQ (pvJ 8) zc))) (zq (zP (qe (ixJ zQ (pvJ 8) zc) (zI st_12)) (zq (psJ 3 nd (ixJ zQ (pvJ 8) zc))) (zq (psJ 4 nd (zlf (by rfl) T.k_Z0d (ixJ zQ (pvJ 8) zc) (λ_ _=>rfl)))))))))) (zq (zD (zN (zb (pvJ 2) (zb (pvJ 3) (zb (pvJ 4) ze zg) zg) zg)))))))),?_⟩;obtain⟨el,n64,h3,so⟩:=id ho;have fin: ∀(i:Nat) (kd:Nat) (o':Option Rt),(i=os.length\/ ∃x,os[i]? =some x/\d<cntF f dy c x.2.2.2.2)->Bst ((os.take i).map λx=>rtT f dy c x.2) d kd o'->Bst ((os.map (·.2)).map (rtT f dy c)) d kd o':=λi kd o' hi hb=>by
  rw[List.map_map];refine hb.more (λt ht=> ?_) λt ht nt=> ?_
  ·obtain⟨x,hx,rfl⟩:=Jw.mp ht;exact Jw.mpr ⟨x,List.mem_of_mem_take hx,rfl⟩
  ·obtain⟨x,hx,rfl⟩:=Jw.mp ht;have nx:x∉os.take i:=λz=>nt (Jw.mpr ⟨x,z,rfl⟩);show d<cntF f dy c x.2.2.2.2;rcases hi with rfl|⟨y,hy,ly⟩
   ·rw[JC] at nx;exact absurd hx nx
   ·obtain⟨j,hj,ej⟩:=List.mem_iff_getElem.mp hx;obtain⟨hi',ey⟩:=Jc.mp hy;by_cases jl:j<i
    ·exact absurd (List.mem_iff_getElem.mpr ⟨j,by rw[JB];omega,by rw[List.getElem_take,ej]⟩) nx
    ·by_cases ji:j=i
     ·subst ji;rw[ej] at ey;rw[ey];exact ly
     ·have:=(List.pairwise_iff_getElem.mp so i j hi' hj 'o').1;rw[ey,ej] at this;omega
 open_k0
 ((try dsimp only);refine qC λR hR=> ?_;(open_k0;repeat (dsimp only[yH,qm,qr,qb,qx];open_k0)))
 refine⟨⟨_,SqL.of el⟩,hR _ _ ?_⟩;clear hR;obtain⟨Pv,hPv⟩: ∃Pv:Nat->St->Hp->Prop,Pv=λi σ1 H7=>zk H H7/\ ∃(o0 o1 o2:Option Rt) (x5 x6 x7 x8:Option V),(Bst ((os.take i).map λx=>rtT f dy c x.2) d 0 o0/\Bst ((os.take i).map λx=>rtT f dy c x.2) d 1 o1/\Bst ((os.take i).map λx=>rtT f dy c x.2) d 2 o2)/\σ1= [some (.ref l),some (.int d),some (sv (stV o0 .non)),some (sv (stV o1 (.int 1))),some (sv (stV o2 on')),x5,x6,x7,x8]:=⟨_,rfl⟩
 have b0: ∀kd,Bst ((os.take 0).map λx=>rtT f dy c x.2) d kd none:=λkd t h=>by rw[List.take_zero] at h;cases h
 refine ve (xs:=os.map λo=>V.ref o.1) Pv (by rw[hPv];exact⟨zk.refl _,none,none,none,_,_,_,_,⟨b0 0,b0 1,b0 2⟩,rfl⟩) (λ_ _ _ _ h=>by rw[hPv] at h;exact SqL.of (h.1 _ _ el)) (λi x σ1 H7 hx h=> ?_) (λσ1 H7 h=> ?_)
 ·rw[hPv] at h;obtain⟨s7,o0,o1,o2,x5,x6,x7,x8,⟨c0,c1,c2⟩,rfl⟩:=h;obtain⟨o,hz,rfl⟩: ∃o,os[i]? =some o/\x= .ref o.1:=by
   rw[Jh] at hx;obtain⟨u,e,rfl⟩:=Jk.mp hx;exact⟨u,e,rfl⟩
  obtain⟨a1,a2,tb⟩:=h3 o (Ji hz);have a2':=s7.sqT a2;obtain⟨r,er⟩:=zfF o.2.2.2.2 tb.1;rw[er] at a2';have tk:(os.take (i+1)).map (λx=>rtT f dy c x.2)=(os.take i).map (λx=>rtT f dy c x.2)++ [rtT f dy c o.2]:=by rw[JH,hz,Option.toList_some,Jd];rfl
  have rb: ∀(kd:Nat) (o':Option Rt),Bst ((os.take i).map λx=>rtT f dy c x.2) d kd o'-> ∀t,o'=some t->t.2.2.1<=(rtT f dy c o.2).2.2.1:=λkd o' hb t e=>by
   subst e;obtain⟨y,hy,rfl⟩:=Jw.mp hb.1;obtain⟨j,hj,ej⟩:=List.mem_iff_getElem.mp hy;rw[JB] at hj;rw[List.getElem_take] at ej;obtain⟨hi',eo⟩:=Jc.mp hz
   have:=(List.pairwise_iff_getElem.mp so j i 'o' hi' 'o').2;rw[ej,eo] at this;omega
  open_k0;refine⟨o.1,_,rfl,SqT.of (s7 _ _ a1),rfl,?_⟩
  (open_k0;repeat (dsimp only[zkl];open_k0))
  refine y8 (λh p H8 _ s8 e8=>q p o0 o1 o2 H8 (s7.trans s8) ⟨fin i 0 _ (.inr ⟨o,hz,h⟩) c0,fin i 1 _ (.inr ⟨o,hz,h⟩) c1,fin i 2 _ (.inr ⟨o,hz,h⟩) c2⟩ e8) (λh=> ?_);have nx: ∀(o0' o1' o2':Option Rt),Bst ((os.take i).map (λx=>rtT f dy c x.2)++ [rtT f dy c o.2]) d 0 o0'->Bst ((os.take i).map (λx=>rtT f dy c x.2)++ [rtT f dy c o.2]) d 1 o1'->Bst ((os.take i).map (λx=>rtT f dy c x.2)++ [rtT f dy c o.2]) d 2 o2'->Pv (i+1) [some (.ref l),some (.int d),some (sv (stV o0' .non)),some (sv (stV o1' (.int 1))),some (sv (stV o2' on')),some (.int (cntF f dy c o.2.2.2.2)),some (.int (qf o.2.2.2.2)),some (.int o.2.2.2.1),some (.ref o.2.2.1)] H7:=λo0' o1' o2' h0 h1 h2=>by
   rw[<-tk] at h0 h1 h2;rw[hPv];exact⟨s7,o0',o1',o2',_,_,_,_,⟨h0,h1,h2⟩,rfl⟩
  have le:(rtT f dy c o.2).2.1<=d:=by show cntF f dy c o.2.2.2.2<=d;omega
  have ne: ∀{kd:Nat},chK o.2.2.2.2≠kd->(rtT f dy c o.2).1=kd->d<(rtT f dy c o.2).2.1:=λh e=>absurd e h;refine ixT a2' (z5 _ _) ⟨rfl,?_⟩;cases hch:o.2.2.2.2 with
  |plan dd nm=>
   rw[hch] at er a2';cases er;have k0:chK o.2.2.2.2=0:=by rw[hch];rfl
   have g:=nx (some (rtT f dy c o.2)) o1 o2 (c0.last k0 le (rb 0 o0 c0)) (c1.skip (ne (by rw[k0];decide))) (c2.skip (ne (by rw[k0];decide)));rw[show sv (stV (some (rtT f dy c o.2)) .non)= .str (SL nm) by show sv (vz o.2.2.2.2)=_;rw[hch];rfl,hch] at g;exact qW rfl (ixT a2' (wZ _ _ _ _) g)
  |seats dd n=>
   rw[hch] at er a2';cases er;have k0:chK o.2.2.2.2=1:=by rw[hch];rfl
   have g:=nx o0 (some (rtT f dy c o.2)) o2 (c0.skip (ne (by rw[k0];decide))) (c1.last k0 le (rb 1 o1 c1)) (c2.skip (ne (by rw[k0];decide)));rw[show sv (stV (some (rtT f dy c o.2)) (.int 1))= .int n by show sv (vz o.2.2.2.2)=_;rw[hch];rfl,hch] at g;exact zW (yD (by show¬([115,101,97,116,115]:List Nat)=_;decide)) (ixT a2' (z5 _ _) ⟨rfl,qW rfl (ixT a2' (wZ _ _ _ _) g)⟩)
  |word wi dd=>
   have w4:=tb.2.2.2 wi dd hch;rw[hch] at er a2';have k0:chK o.2.2.2.2=2:=by rw[hch];rfl
   have g:=nx o0 o1 (some (rtT f dy c o.2)) (c0.skip (ne (by rw[k0];decide))) (c1.skip (ne (by rw[k0];decide))) (c2.last k0 le (rb 2 o2 c2));rw[show sv (stV (some (rtT f dy c o.2)) on')= .str (SL (vy wi)) by show sv (vz o.2.2.2.2)=_;rw[hch];rfl,hch] at g;rw[show chW (.word wi dd)=qV wi from rfl] at a2' ⊢;rcases ziL w4 with⟨ew,et⟩|⟨ew,et⟩|⟨ew,et⟩|⟨ew,et⟩
   ·rw[ew] at a2' ⊢;rw[et] at g;exact zW (yD 'd') (ixT a2' (z5 _ _) ⟨rfl,zW (yD 'd') (ixT a2' (z5 _ _) ⟨_,rfl,_,rfl,g⟩)⟩)
   ·rw[ew] at a2' ⊢;rw[et] at g;exact zW (yD 'd') (ixT a2' (z5 _ _) ⟨rfl,zW (yD 'd') (ixT a2' (z5 _ _) ⟨_,rfl,_,rfl,g⟩)⟩)
   ·rw[ew] at a2' ⊢;rw[et] at g;exact zW (yD 'd') (ixT a2' (z5 _ _) ⟨rfl,zW (yD 'd') (ixT a2' (z5 _ _) ⟨_,rfl,_,rfl,g⟩)⟩)
   ·rw[ew] at a2' ⊢;rw[et] at g;exact zW (yD 'd') (ixT a2' (z5 _ _) ⟨rfl,zW (yD 'd') (ixT a2' (z5 _ _) ⟨_,rfl,_,rfl,g⟩)⟩)
  |undo k=>have:=tb.1;rw[hch] at this;cases this
  |grant k=>have:=tb.1;rw[hch] at this;cases this
  |back=>have:=tb.1;rw[hch] at this;cases this
 ·rw[hPv] at h;obtain⟨s7,o0,o1,o2,x5,x6,x7,x8,⟨c0,c1,c2⟩,rfl⟩:=h;rw[Ja] at c0 c1 c2;open_k0;exact λp H8 _ s8 e8=>q p o0 o1 o2 H8 (s7.trans s8) ⟨fin _ 0 _ (.inl rfl) c0,fin _ 1 _ (.inl rfl) c1,fin _ 2 _ (.inl rfl) c2⟩ e8
def zqD(K:Fg)(H:Hp)(pa:Addr)(f:Int)(dy:Bool)(c:Int)(nm:List Nat)(pr ct:Int):Prop:= ∃(l:Addr) (zs:List (V×Pl)),qS K H pa l f dy c/\H l=some (.lst (zs.map (·.1)))/\xC K H zs/\zs.length<=8/\(∃z0,(zs.filter λz=>decide (z.2.1=nm))[0]? =some z0/\z0.2.2=(pr,ct))/\(0<=pr/\pr<10 ^ 30)/\0<=ct/\ct<=400
def znp(K:Fg):Sp:=λvs H Q _=> ∃(pa:Addr) (f:Int) (dy:Bool) (c:Int) (nm:List Nat) (pr ct:Int),vs= [.ref pa, .str (SL nm)]/\zqD K H pa f dy c nm pr ct/\ ∀p H',zk H H'->H' p=some (.tup [.int pr, .int ct])->Q (.ref p) H'
theorem sc_0h:FnScope ["account","name"] ["account","name"] (zE s_0h):=by sl_open
theorem ok_0h(T:Txt w K mg t):FnOk P w K mg base (CXE P w) 1 t.a_0h t.d_0h ["account","name"] (znp K):=by
 refine T.F_0h.fn.okX sc_0h ?_ λcdv A outer s H vs Q E L hr h=> ?_
 ·kdl_open
 obtain⟨pa,f,dy,c,nm,pr,ct,rfl,⟨l,zs,⟨pc,f0,f1,hc,ep⟩,el,za,z8,⟨z0,hz0,ez0⟩,_⟩,q⟩:=h;have nd:=sc_0h.nd;refine⟨_,(zq (zD (ixJ yj (xB (n:=3) (N:= ["plan","price","count","name"]) (js:= [1]) (by rfl) rfl rfl (qo (ixJ zQ (pvJ 0) zc)) (λa=>(zZ (n:=3) rfl (yt (zr (i:=0) (show List.Nodup (["plan","price","count","name"]:List Str) from by decide+kernel) rfl (Or.inl rfl)) (yt (zr (i:=1) (show List.Nodup (["plan","price","count","name"]:List Str) from by decide+kernel) rfl (Or.inl rfl)) (yt (zr (i:=2) (show List.Nodup (["plan","price","count","name"]:List Str) from by decide+kernel) rfl (Or.inl rfl)) qT))))) (λa=>(wN (ql xr (pvJ 0) (pvJ 3) (yu _)))) (λa=>(zN (zb (pvJ 1) (zb (pvJ 2) ze zg) zg)))) zc))),?_⟩
 (open_k0;repeat (dsimp only[qG,yH];open_k0))
 refine ixT (SqT.of ep) (z5 _ _) ⟨l,rfl,⟨_,SqL.of el⟩,λl2 hl2 aa=> ?_⟩;refine qQ (λj xs H5=> ∃as:List Addr,xs=as.map V.ref/\as.length=((zs.take j).filter λz=>decide (z.2.1=nm)).length/\ ∀(i:Nat) (a:Addr) (z:V×Pl),as[i]? =some a->((zs.take j).filter λz=>decide (z.2.1=nm))[i]? =some z->H5 a=some (.tup [.int z.2.2.1, .int z.2.2.2])) (xZ (SqL.of el)) hl2 (by rw[Ja];exact qj 'o') (λ_ _=>⟨[],rfl,rfl,λi a t h=>by rw[List.getElem?_nil] at h;cases h⟩) (λj x xs H8 K1 K0 hx sm pv hl k1 k0=> ?_) (λxs H2 s2 pv _ w2=> ?_)
 ·obtain⟨z,hz,rfl⟩: ∃z,zs[j]? =some z/\x=z.1:=by
   rw[Jh] at hx;obtain⟨u,e,rfl⟩:=Jk.mp hx;exact⟨u,e,rfl⟩
  obtain⟨pz,ez,hT⟩:=za z (Ji hz);obtain⟨as,rfl,al,pa'⟩:=pv;have fe:(zs.take (j+1)).filter (λz=>decide (z.2.1=nm))=(zs.take j).filter (λz=>decide (z.2.1=nm))++ [z].filter (λz=>decide (z.2.1=nm)):=by rw[JH,hz,Option.toList_some,JT]
  rw[ez];open_k0;refine⟨pz,_,rfl,sm.sqT hT,rfl,?_⟩;open_k0;have nl: ∀(Ha:Hp) a xs,zk H8 Ha->Ha a=some (.tup xs)->a≠l2:=λHa a xs sa h z=>by rw[z,sa _ _ hl] at h;cases h
  by_cases en:z.2.1=nm
  ·have f1: [z].filter (λz=>decide (z.2.1=nm))= [z]:=by rw[List.filter_cons_of_pos (by rw[decide_eq_true_eq];exact en)];rfl
   rw[f1] at fe;refine qW en (show New _ _ _ from λp H9 hp s9 e9=>k1 _ _ s9 λH5 h5=>⟨as++ [p],by rw[Jd];rfl,by rw[fe,Jj,Jj,al];rfl,λi a t h1 h2=> ?_⟩);rw[fe,List.getElem?_append,<-al] at h2;rw[List.getElem?_append] at h1;by_cases hi:i<as.length
   ·rw[Jg hi] at h1 h2
    have:=s9 _ _ (pa' i a t h1 h2);exact h5 _ _ (nl _ _ _ s9 this) this
   ·rw[Jf hi] at h1 h2;have i0:i - as.length=0:=by
     rcases Nat.lt_or_ge (i - as.length) 1 with z|z
     ·omega
     ·rw[List.getElem?_eq_none (by simpa using z)] at h1;cases h1
    rw[i0] at h1 h2;cases h1;cases h2;exact h5 _ _ (nl _ _ _ s9 e9) e9
  ·have f1: [z].filter (λz=>decide (z.2.1=nm))= []:=List.filter_cons_of_neg (by rw[decide_eq_true_eq];exact en);rw[f1,Jt] at fe;exact zW en (k0 _ (zk.refl _) ⟨as,rfl,by rw[fe];exact al,by rw[fe];exact pa'⟩)
 rw[Ja,JC] at pv;obtain⟨as,rfl,al,pa'⟩:=pv;obtain⟨h0,_⟩:=Jc.mp hz0;have ea:as[0]? =some (as[0]''o'):=Jb _;have e0:=pa' 0 _ z0 ea hz0;rw[ez0] at e0;refine ixL (v:= .ref (as[0]''o')) (SqL.of w2) (xf (j:=0) (by rw[Jh,ea];rfl)) (q _ H2 s2 e0)
def znq:Sp:=λvs H Q _=> ∃p n b e:Int,vs= [.int p, .int n, .int b, .int e]/\0<=p/\p<10 ^ 60/\0<n/\n<10 ^ 20/\0<=b/\b<=e/\e<10 ^ 20/\ ∀H',zk H H'->Q (.int (p*e / n - p*b / n)) H'
theorem sc_0c:FnScope ["price","count","begin","end"] ["price","count","begin","end"] (zE s_0c):=by sl_open
theorem ok_0c(T:Txt w K mg t):FnOk P w K mg base (CXE P w) 1 t.a_0c t.d_0c ["price","count","begin","end"] (znq):=by
 refine T.F_0c.fn.okX sc_0c ?_ λcdv A outer s H vs Q E L hr h=> ?_
 ·kdl_open
 obtain⟨p,n,b,e,rfl,p0,p1,n0,n1,b0,be,e1,q⟩:=h;have nd:=sc_0c.nd;refine⟨_,(zq (zD (zh zX (zh yR (zh kZ (pvJ 0) (pvJ 3)) (pvJ 1)) (zh yR (zh kZ (pvJ 0) (pvJ 2)) (pvJ 1))))),?_⟩;have mp:Sm p:=Sm.pow10 (k:=60) 'd' 'o';have mn:Sm n:=Sm.pow10 (k:=20) 'd' 'o';have mb:Sm b:=Sm.pow10 (k:=20) 'd' 'o';have me:Sm e:=Sm.pow10 (k:=20) 'd' 'o';open_k0;refine⟨.inr ⟨mp,me⟩,n0,mn, .inr ⟨mp,mb⟩,n0,mn,q H (zk.refl _)⟩
def uk(pr ct st sb se b e:Int):Int:=pr*st*(e - sb) / (if ct=0 then se - sb else ct) - pr*st*(b - sb) / (if ct=0 then se - sb else ct)
def vC(zs:List (V×Pl)):Prop:=1<=zs.length/\zs.length<=8/\ ∀z∈zs,(0<=z.2.2.1/\z.2.2.1<10 ^ 30)/\0<=z.2.2.2/\z.2.2.2<=400
def yG(K:Fg)(H:Hp)(pa l:Addr)(f:Int)(dy:Bool)(c:Int)(zs:List (V×Pl)):Prop:=qS K H pa l f dy c/\H l=some (.lst (zs.map (·.1)))/\xC K H zs/\vC zs
theorem yG.same{K:Fg}{H H':Hp}{pa l:Addr}{f:Int}{dy:Bool}{c:Int}{zs:List (V×Pl)}(h:yG K H pa l f dy c zs)(s:zk H H'):yG K H' pa l f dy c zs:=⟨h.1.same s,s _ _ h.2.1,h.2.2.1.same s,h.2.2.2⟩
def plF(zs:List (V×Pl))(nm:List Nat):Int×Int:=(((zs.filter λz=>decide (z.2.1=nm))[0]?).map λz=>z.2.2).getD (0,0)
theorem yG.p{f:Int}(h:yG K H pa l f dy c zs){nm:List Nat}(hn:nm∈zs.map λz=>z.2.1):zqD K H pa f dy c nm (plF zs nm).1 (plF zs nm).2:=by
 obtain⟨h1,h2,h3,h4,h5,h6⟩:=h;obtain⟨z,hz,e⟩:=Jw.mp hn;have hm:z∈zs.filter λz=>decide (z.2.1=nm):=List.mem_filter.mpr ⟨hz,JO e⟩;have hl:=List.length_pos_of_mem hm;have e0:(zs.filter λz=>decide (z.2.1=nm))[0]? =some ((zs.filter λz=>decide (z.2.1=nm))[0]'hl):=Jb _;have ef:plF zs nm=((zs.filter λz=>decide (z.2.1=nm))[0]'hl).2.2:=by unfold plF;rw[e0];rfl
 have b:=h6 _ (List.mem_filter.mp (List.getElem_mem hl)).1;rw[<-ef] at b;exact⟨l,zs,h1,h2,h3,h5,⟨_,e0,ef.symm⟩,b.1,b.2⟩
def StX(zs:List (V×Pl))(d:List D):Prop:= ∃d0 n wd,d= [d0, .int n, .str wd]/\(d0= .non\/ ∃nm,d0= .str nm/\nm∈zs.map λz=>z.2.1)/\0<=n/\n<=1000000
def yr(zs:List (V×Pl))(sb se b e:Int):List D->Int
 | [.str nm, .int st, .str wd]=>if wd= [111,110] then uk (plF zs nm).1 (plF zs nm).2 st sb se b e else 0
 |_=>0
def zkb(K:Fg):Sp:=λvs H Q _=> ∃(pa l:Addr) (f:Int) (dy:Bool) (c:Int) (zs:List (V×Pl)) (d:List D) (p1 p2 p3:Addr) (sb se b e:Int),vs= [.ref pa, .ref p1, .ref p2]/\yG K H pa l f dy c zs/\StX zs d/\H p1=some (.tup [.int sb, .int se])/\H p2=some (.tup [.int b, .int e, .ref p3])/\H p3=some (.tup (d.map sv))/\sb<=b/\b<=e/\e<=se/\sb<se/\se - sb<10 ^ 10/\ ∀H',zk H H'->Q (.int (yr zs sb se b e d)) H'
theorem sc_0i:FnScope ["account","span","stretch","begin","end","state","name","seats","word","span_begin","span_end","price","count"] ["account","span","stretch"] (zE s_0i):=by sl_open
theorem ok_0i(T:Txt w K mg t):FnOk P w K mg base (CXE P w) 2 t.a_0i t.d_0i ["account","span","stretch"] (zkb K):=by
 refine T.F_0i.fn.okX sc_0i ?_ λcdv A outer s H vs Q E L hr h=> ?_
 ·kdl_open
 obtain⟨pa,l,f,dy,c,zs,d,p1,p2,p3,sb,se,b,e,rfl,hz,⟨d0,st,wd,rfl,hd,st0,st1⟩,e1,e2,e3,h1,h2,h3,h4,h5,q⟩:=h;have nd:=sc_0i.nd;refine⟨_,(zj (yB (pvJ 2) (zZ (n:=3) rfl (zH (zr (i:=3) nd rfl (Or.inl rfl)) (zH (zr (i:=4) nd rfl (Or.inl rfl)) (zH (zr (i:=5) nd rfl (Or.inl rfl)) yF))))) (zj (yB (pvJ 5) (zZ (n:=3) rfl (zH (zr (i:=6) nd rfl (Or.inl rfl)) (zH (zr (i:=7) nd rfl (Or.inl rfl)) (zH (zr (i:=8) nd rfl (Or.inl rfl)) yF))))) (zj (zP (PWQ.pq (wB (qL (ql zok (pvJ 6) zkh (yu _))) (wz (zqy (pvJ 8) (zI st_10))))) (zq (zD zc)) zR) (zj (yB (pvJ 1) (zZ (n:=2) rfl (zH (zr (i:=9) nd rfl (Or.inl rfl)) (zH (zr (i:=10) nd rfl (Or.inl rfl)) yF)))) (zj (yB (peD L.toLv (ok_0h T) hr T.F_0h (zb (pvJ 0) (zb (pvJ 6) ze zg) zg)) (zZ (n:=2) rfl (zH (zr (i:=11) nd rfl (Or.inl rfl)) (zH (zr (i:=12) nd rfl (Or.inl rfl)) yF)))) (zj (zP (qe (pvJ 12) zc) (zq (psJ 12 nd (zh zX (pvJ 10) (pvJ 9)))) zR) (zq (zD (peD L.toLv (ok_0c T) hr T.F_0c (zb (zh kZ (pvJ 11) (pvJ 7)) (zb (pvJ 12) (zb (zh zX (pvJ 3) (pvJ 9)) (zb (zh zX (pvJ 4) (pvJ 9)) ze zM) zM) zg) zM)))))))))),?_⟩;open_k0;refine⟨p2,_,rfl,SqT.of e2,rfl,?_⟩;open_k0;rcases hd with rfl|⟨nm,rfl,hn⟩
 ·have e3':H p3=some (.tup [.non, .int st, .str (SL wd)]):=e3;refine⟨p3,_,rfl,SqT.of e3',rfl,?_⟩;open_k0;exact q H (zk.refl _)
 have e3':H p3=some (.tup [.str (SL nm), .int st, .str (SL wd)]):=e3;have ha:=hz.p hn;have q0: ∀H',zk H H'->Q (.int (if wd= [111,110] then uk (plF zs nm).1 (plF zs nm).2 st sb se b e else 0)) H':=q;generalize (plF zs nm).1=pr at ha q0;generalize (plF zs nm).2=ct at ha q0;have ⟨_,_,_,_,_,_,_,⟨pr0,pr1⟩,ct0,ct1⟩:=ha;refine⟨p3,_,rfl,SqT.of e3',rfl,?_⟩;open_k0;by_cases on:wd= [111,110]
 ·subst on;refine zW (λz=>z rfl) ?_;refine⟨p1,_,rfl,SqT.of e1,rfl,?_⟩;open_k0;refine⟨pa,f,dy,c,nm,pr,ct,rfl,ha,λp4 H4 s4 e4=> ?_⟩;refine⟨p4,_,rfl,SqT.of e4,rfl,?_⟩;open_k0;have mp:Sm pr:=Sm.pow10 (k:=30) 'd' 'o';have ms:Sm st:=Sm.pow10 (k:=7) 'd' 'o';have m0:0<=pr*st:=Int.mul_nonneg pr0 st0;have m1:pr*st<10 ^ 60:=by
   have:=Int.mul_le_mul (show pr<=10 ^ 30 by omega) st1 st0 'd';exact Int.lt_of_le_of_lt this 'd'
  have q':=q0;rw[Jg rfl] at q';unfold uk at q';refine y8 (λz=>⟨.inr ⟨mp,ms⟩,pr*st,se - sb,b - sb,e - sb,rfl,m0,m1,'o','o','o','o','o',λH5 s5=> ?_⟩) (λz=>⟨.inr ⟨mp,ms⟩,pr*st,ct,b - sb,e - sb,rfl,m0,m1,'o','o','o','o','o',λH5 s5=> ?_⟩)
  ·rw[Jg z] at q';exact q' H5 (s4.trans s5)
  ·rw[Jf z] at q';exact q' H5 (s4.trans s5)
 ·rw[Jf on] at q0;exact qW on (q0 H (zk.refl _))
def TmX(zs:List (V×Pl))(ch:Ch):Prop:=(∀d nm,ch= .plan d nm->nm∈zs.map λz=>z.2.1)/\ ∀d n,ch= .seats d n->0<=n/\n<=1000000
theorem st_x{f:Int}(hb: ∀t∈ts,yL t.2.2.2=true)(hx: ∀t∈ts,TmX zs t.2.2.2)(h:xo f dy c ts day o0 o1 o2):StX zs (stT o0 o1 o2):=by
 obtain⟨h0,h1,h2⟩:=h;have of: ∀(kd:Nat) (t:Rt),Bst (ts.map (rtT f dy c)) day kd (some t)-> ∃u:Tm,u∈ts/\chK u.2.2.2=kd/\t.2.2.2=vz u.2.2.2:=λkd t hb'=>by
  obtain⟨u,hu,rfl⟩:=Jw.mp hb'.1;exact⟨u,hu,hb'.2.1,rfl⟩
 have a0:stV o0 .non= .non\/ ∃nm,stV o0 .non= .str nm/\nm∈zs.map λz=>z.2.1:=by
  cases o0 with
  |none=>exact .inl rfl
  |some t=>
   obtain⟨u,hu,k,e⟩:=of 0 t h0;have x:=hx u hu;show t.2.2.2= .non\/ ∃nm,t.2.2.2= .str nm/\_;rw[e];cases hch:u.2.2.2 with
   |plan d nm=>exact .inr ⟨nm,rfl,x.1 d nm hch⟩
   |seats d n=>rw[hch] at k;cases k
   |word w d=>rw[hch] at k;cases k
   |undo k'=>rw[hch] at k;cases k
   |grant k'=>rw[hch] at k;cases k
   |back=>rw[hch] at k;cases k
 have a1: ∃n,stV o1 (.int 1)= .int n/\0<=n/\n<=1000000:=by
  cases o1 with
  |none=>exact⟨1,rfl,'d','d'⟩
  |some t=>
   obtain⟨u,hu,k,e⟩:=of 1 t h1;have x:=hx u hu;show∃n,t.2.2.2= .int n/\_;rw[e];cases hch:u.2.2.2 with
   |seats d n=>exact⟨n,rfl,x.2 d n hch⟩
   |plan d nm=>rw[hch] at k;cases k
   |word w d=>rw[hch] at k;cases k
   |undo k'=>rw[hch] at k;cases k
   |grant k'=>rw[hch] at k;cases k
   |back=>rw[hch] at k;cases k
 have a2: ∃w,stV o2 on'= .str w:=by
  cases o2 with
  |none=>exact⟨_,rfl⟩
  |some t=>
   obtain⟨u,hu,k,e⟩:=of 2 t h2;have tm:=hb u hu;show∃w,t.2.2.2= .str w;rw[e];cases hch:u.2.2.2 with
   |word w d=>exact⟨_,rfl⟩
   |plan d nm=>rw[hch] at k;cases k
   |seats d n=>rw[hch] at k;cases k
   |undo k'=>rw[hch] at tm;cases tm
   |grant k'=>rw[hch] at tm;cases tm
   |back=>rw[hch] at tm;cases tm
 obtain⟨n,e1,n0,n1⟩:=a1;obtain⟨wd,e2⟩:=a2;exact⟨_,n,wd,by unfold stT;rw[e1,e2],a0,n0,n1⟩
theorem st_kinds{f:Int}(hb: ∀t∈ts,yL t.2.2.2=true)(h:xo f dy c ts day o0 o1 o2):ScD (stV o0 .non)/\(∃n,stV o1 (.int 1)= .int n)/\ ∃w,stV o2 on'= .str w:=by
 obtain⟨h0,h1,h2⟩:=h;have of: ∀(kd:Nat) (t:Rt),Bst (ts.map (rtT f dy c)) day kd (some t)-> ∃u:Tm,yL u.2.2.2=true/\chK u.2.2.2=kd/\t.2.2.2=vz u.2.2.2:=λkd t hb'=>by
  obtain⟨u,hu,rfl⟩:=Jw.mp hb'.1;exact⟨u,hb u hu,hb'.2.1,rfl⟩
 refine⟨?_,?_,?_⟩
 ·cases o0 with
  |none=>exact .inl rfl
  |some t=>
   obtain⟨u,tm,k,e⟩:=of 0 t h0;show ScD t.2.2.2;rw[e];cases hch:u.2.2.2 with
   |plan d nm=>exact .inr (.inr ⟨_,rfl⟩)
   |seats d n=>exact .inr (.inl ⟨_,rfl⟩)
   |word w d=>exact .inr (.inr ⟨_,rfl⟩)
   |undo k=>exact .inl rfl
   |grant k=>exact .inl rfl
   |back=>exact .inl rfl
 ·cases o1 with
  |none=>exact⟨1,rfl⟩
  |some t=>
   obtain⟨u,tm,k,e⟩:=of 1 t h1;show∃n,t.2.2.2= .int n;rw[e];cases hch:u.2.2.2 with
   |seats d n=>exact⟨n,rfl⟩
   |plan d nm=>rw[hch] at k;cases k
   |word w d=>rw[hch] at k;cases k
   |undo k'=>rw[hch] at tm;cases tm
   |grant k'=>rw[hch] at tm;cases tm
   |back=>rw[hch] at tm;cases tm
 ·cases o2 with
  |none=>exact⟨_,rfl⟩
  |some t=>
   obtain⟨u,tm,k,e⟩:=of 2 t h2;show∃n,t.2.2.2= .str n;rw[e];cases hch:u.2.2.2 with
   |word w d=>exact⟨_,rfl⟩
   |plan d nm=>rw[hch] at k;cases k
   |seats d nm=>rw[hch] at k;cases k
   |undo k'=>rw[hch] at tm;cases tm
   |grant k'=>rw[hch] at tm;cases tm
   |back=>rw[hch] at tm;cases tm
theorem w6.same{f:Int}{os:List Or'}(h:w6 K H l f dy c os)(s:zk H H'):w6 K H' l f dy c os:=⟨s _ _ h.1,h.2.1,λo ho=>⟨s _ _ (h.2.2.1 o ho).1,s.sqT (h.2.2.1 o ho).2.1,(h.2.2.1 o ho).2.2⟩,h.2.2.2⟩
theorem st_std{f:Int}(hb: ∀t∈ts,yL t.2.2.2=true)(h:xo f dy c ts day o0 o1 o2):StD (stT o0 o1 o2):=by
 obtain⟨k0,⟨n,k1⟩,w,k2⟩:=st_kinds hb h;exact⟨_,n,w,k0,by unfold stT;rw[k1,k2]⟩
theorem xo.on{f:Int}{dy:Bool}{c:Int}{ts:List Tm}{day d2:Int}{o0 o1 o2:Option Rt}(h:xo f dy c ts day o0 o1 o2)(le:day<=d2)(n: ∀t∈ts,cntF f dy c t.2.2.2<=day\/d2<cntF f dy c t.2.2.2):xo f dy c ts d2 o0 o1 o2:=by
 have n': ∀r∈ts.map (rtT f dy c),r.2.1<=day\/d2<r.2.1:=λr hr=>by
  obtain⟨t,ht,rfl⟩:=Jw.mp hr;exact n t ht
 exact⟨h.1.on le n',h.2.1.on le n',h.2.2.on le n'⟩
def IsG(f:Int)(dy:Bool)(c:Int)(ts:List Tm)(G:Int->List D):Prop:= ∀d o0 o1 o2,xo f dy c ts d o0 o1 o2->stT o0 o1 o2=G d
def zpB(f:Int)(dy:Bool)(c:Int)(ts:List Tm)(d:List D):Prop:= ∃dd o0 o1 o2,xo f dy c ts dd o0 o1 o2/\d=stT o0 o1 o2
def zhU(K:Fg):Sp:=λvs H Q _=> ∃(l:Addr) (b e:Int) (f:Int) (dy:Bool) (c:Int) (os:List Or') (G:Int->List D),vs= [.ref l, .int b, .int e]/\w6 K H l f dy c os/\b<=e/\IsG f dy c (os.map (·.2)) G/\ ∀r zs H',H r=none->zk H H'->vA H' r zs->Rws G b (zs.map (·.2)) e->(∀z∈zs,zpB f dy c (os.map (·.2)) z.2.2.2)->zs.length<=64->Q (.ref r) H'
theorem sc_0g:FnScope ["ordered","begin","end","told","opened","state","term","day","behind"] ["ordered","begin","end"] (zE s_0g):=by sl_open
theorem ok_0g(T:Txt w K mg t):FnOk P w K mg base (CXE P w) 2 t.a_0g t.d_0g ["ordered","begin","end"] (zhU K):=by
 refine T.F_0g.fn.okX sc_0g ?_ λcdv A outer s H vs Q E L hr h=> ?_
 ·kdl_open
 obtain⟨l,b,e,f,dy,c,os,G,rfl,ho,be,hG,q⟩:=h;have nd:=sc_0g.nd;refine⟨_,(zj (zP (qe (pvJ 1) (pvJ 2)) (zq (zD (zY ze))) zR) (zj (psJ 3 nd (zY ze)) (zj (psJ 4 nd (pvJ 1)) (zj (psJ 5 nd (peD L.toLv (ok_0f T) hr T.F_0f (zb (pvJ 0) (zb (pvJ 1) ze zg) zg))) (zj (qp (by passes_own) rfl (qo (pvJ 0)) (zr (i:=6) nd rfl (Or.inl rfl)) (zj (psJ 7 nd (ixJ zQ (pvJ 6) zc)) (zq (zP (PWQ.pq (xR (yp qy (pvJ 1) (pvJ 7)) (xQ (yp qy (pvJ 7) (pvJ 2))))) (zj (psJ 8 nd (peD L.toLv (ok_0f T) hr T.F_0f (zb (pvJ 0) (zb (pvJ 7) ze zg) zg))) (zq (zP (qL (ql (vV hr) (pvJ 8) (pvJ 5) (yu _))) (zj (yU (qd PySem.F.plainAttrs_list PySem.F.slot_list_append PySem.F.type_list_append qq (pvJ 3) (zb (zN (zb (pvJ 4) (zb (pvJ 7) (zb (pvJ 5) ze zg) zg) zg)) ze))) (zj (psJ 4 nd (pvJ 7)) (zq (psJ 5 nd (pvJ 8))))) zR))) zR)))) (zj (yU (qd PySem.F.plainAttrs_list PySem.F.slot_list_append PySem.F.type_list_append qq (pvJ 3) (zb (zN (zb (pvJ 4) (zb (pvJ 2) (zb (pvJ 5) ze zg) zg) zg)) ze))) (zq (zD (pvJ 3))))))))),?_⟩;obtain⟨el,n64,h3,so⟩:=id ho;have tm: ∀t∈os.map (·.2),yL t.2.2.2=true:=λt ht=>by
  obtain⟨o,ho',rfl⟩:=Jw.mp ht;exact(h3 o ho').2.2.1
 open_k0;refine y8 (λz=> ?_) (λz=> ?_)
 ·exact λr H1 hr s1 e1=>q r [] H1 hr s1 ⟨e1,(λ_ h=>nomatch h)⟩ z (λ_ h=>nomatch h) 'd'
 intro lt H1 hlt s1 e1;refine⟨l,b,f,dy,c,os,rfl,ho.same s1,λps o0 o1 o2 H2 s2 so2 e2=> ?_⟩;have s12:=s1.trans s2
 ((try dsimp only);refine qC λR hR=> ?_;(open_k0;repeat (dsimp only[yH,qm,qr,qb,qx];open_k0)))
 refine⟨⟨_,SqL.of (s12 _ _ el)⟩,hR _ _ ?_⟩;clear hR;obtain⟨Pv,hPv⟩: ∃Pv:Nat->St->Hp->Prop,Pv=λi σ1 H7=>zk H H7/\ ∃(zs:List (Addr×Rw)) (op:Int) (ps:Addr) (d:List D) (x6 x7 x8:Option V),vA H7 lt zs/\zs.length<=i/\Rws G b (zs.map (·.2)) op/\(∀x,(zs.map (·.2)).getLast? =some x->x.2.2≠d)/\(H7 ps=some (.tup (d.map sv))/\StD d)/\((∀z∈zs,zpB f dy c (os.map (·.2)) z.2.2.2)/\zpB f dy c (os.map (·.2)) d)/\op<e/\(∀(j:Nat) o,os[j]? =some o->i<=j->b<cntF f dy c o.2.2.2.2->op<=cntF f dy c o.2.2.2.2)/\(∀day,op<=day->day<e->(∀(j:Nat) o,os[j]? =some o->i<=j->cntF f dy c o.2.2.2.2<=op\/day<cntF f dy c o.2.2.2.2)->G day=d)/\σ1= [some (.ref l),some (.int b),some (.int e),some (.ref lt),some (.int op),some (.ref ps),x6,x7,x8]:=⟨_,rfl⟩
 have go: ∀(k i:Nat) (x o:Or'),os[k]? =some x->os[i]? =some o->k<=i->cntF f dy c x.2.2.2.2<=cntF f dy c o.2.2.2.2:=λk i x o hk hi ki=>by
  obtain⟨hk',ek⟩:=Jc.mp hk;obtain⟨hi',ei⟩:=Jc.mp hi;rcases Nat.lt_or_ge k i with z|z
  ·have:=(List.pairwise_iff_getElem.mp so k i hk' hi' z).1;rw[ek,ei] at this;exact this
  ·obtain rfl:k=i:=by omega
   rw[hk] at hi;cases hi;exact Jz _
 refine ve (xs:=os.map λo=>V.ref o.1) Pv ?_ (λ_ _ _ _ h=>by rw[hPv] at h;exact SqL.of (h.1 _ _ el)) (λi x σ1 H7 hx h=> ?_) (λσ1 H7 h=> ?_)
 ·rw[hPv];refine⟨s12, [],b,ps,_,_,_,_,⟨s2 _ _ e1,(λ_ h=>nomatch h)⟩,Je _,rfl,(λ_ h=>nomatch h),⟨e2,st_std tm so2⟩,⟨(λ_ h=>nomatch h),_,_,_,_,so2,rfl⟩,'o',λ_ _ _ _ h=>by omega,λday h1 _ h2=> ?_,rfl⟩;refine(hG _ _ _ _ (so2.on h1 λt ht=> ?_)).symm;obtain⟨o,ho',rfl⟩:=Jw.mp ht;obtain⟨j,hj⟩:=List.getElem?_of_mem ho';exact h2 j o hj (Jv _)
 ·rw[hPv] at h;obtain⟨s7,zs,op,ps,d,x6,x7,x8,zA,zl,hr,la,⟨e7,sd⟩,⟨zS,dS⟩,oe,oc,ok,rfl⟩:=h;obtain⟨o,hz,rfl⟩: ∃o,os[i]? =some o/\x= .ref o.1:=by
   rw[Jh] at hx;obtain⟨u,e,rfl⟩:=Jk.mp hx;exact⟨u,e,rfl⟩
  obtain⟨a1,a2,tb⟩:=h3 o (Ji hz);have bo:=Rws.le hr;open_k0;refine ixT (SqT.of (s7 _ _ a1)) (z5 _ _) ?_;have nx: ∀(x8':Option V) (H8:Hp),zk H7 H8->(∀day,op<=day->day<e->(∀(j:Nat) o,os[j]? =some o->i+1<=j->cntF f dy c o.2.2.2.2<=op\/day<cntF f dy c o.2.2.2.2)->G day=d)->Pv (i+1) [some (.ref l),some (.int b),some (.int e),some (.ref lt),some (.int op),some (.ref ps),some (.ref o.1),some (.int (cntF f dy c o.2.2.2.2)),x8'] H8:=λx8' H8 s8 hd=>by
   rw[hPv];exact⟨s7.trans s8,zs,op,ps,d,_,_,_,zA.same s8,'o',hr,la,⟨s8 _ _ e7,sd⟩,⟨zS,dS⟩,oe,λj o hj ij=>oc j o hj 'o',hd,rfl⟩
  have far:(cntF f dy c o.2.2.2.2<=op\/e<=cntF f dy c o.2.2.2.2)-> ∀day,op<=day->day<e->(∀(j:Nat) o,os[j]? =some o->i+1<=j->cntF f dy c o.2.2.2.2<=op\/day<cntF f dy c o.2.2.2.2)->G day=d:=λhf day h1 h2 h4=>ok day h1 h2 λj o' hj ij=>by
   rcases Nat.lt_or_ge i j with z|z
   ·exact h4 j o' hj z
   ·obtain rfl:i=j:=by omega
    rw[hz] at hj;cases hj;rcases hf with z|z
    ·exact .inl z
    ·exact .inr 'o'
  refine⟨_,rfl,y8 (λhb=>⟨_,rfl,y8 (λhe=> ?_) λhe=>nx _ _ (zk.refl _) (far (.inr 'o'))⟩) λhb=>nx _ _ (zk.refl _) (far (.inl 'o'))⟩;refine⟨l,cntF f dy c o.2.2.2.2,f,dy,c,os,rfl,ho.same s7,λpb o0 o1 o2 H8 s8 so8 e8=> ?_⟩;have oc':=oc i o hz (Je _) hb;have sd8:=st_std tm so8;have gb:=hG _ _ _ _ so8;have all: ∀day,cntF f dy c o.2.2.2.2<=day->(∀(j:Nat) o',os[j]? =some o'->i+1<=j->cntF f dy c o'.2.2.2.2<=cntF f dy c o.2.2.2.2\/day<cntF f dy c o'.2.2.2.2)->G day=stT o0 o1 o2:=λday h1 h2=>by
   refine(hG _ _ _ _ (so8.on h1 λt ht=> ?_)).symm;obtain⟨o',ho',rfl⟩:=Jw.mp ht;obtain⟨j,hj⟩:=List.getElem?_of_mem ho';rcases Nat.lt_or_ge i j with z|z
   ·exact h2 j o' hj z
   ·exact .inl (go j i o' o hj hz z)
  have go': ∀(j:Nat) o',os[j]? =some o'->i+1<=j->cntF f dy c o.2.2.2.2<=cntF f dy c o'.2.2.2.2:=λj o' hj ij=>go i j o o' hz hj 'o';refine⟨0, .tup (stT o0 o1 o2), .tup d,sd8.dp e8,sd.dp (s8 _ _ e7),rfl,rfl,'d',sd8.cmp sd,_,rfl,?_⟩;by_cases eq:stT o0 o1 o2=d
  ·rw[(sd8.eqb sd).mpr eq];refine zW 'd' (nx _ _ s8 λday h1 h2 h4=> ?_);by_cases dc:day<cntF f dy c o.2.2.2.2
   ·exact ok day h1 h2 λj o' hj ij=>by
     rcases Nat.lt_or_ge i j with z|z
     ·exact h4 j o' hj z
     ·obtain rfl:i=j:=by omega
      rw[hz] at hj;cases hj;exact .inr dc
   ·rw[<-eq];exact all day 'o' λj o' hj ij=>by
     rcases h4 j o' hj ij with z|z
     ·exact .inl 'o'
     ·exact .inr z
  ·rw[show L2.eqb 1 (.tup (stT o0 o1 o2)) (.tup d)=false from Bool.eq_false_iff.mpr λz=>eq ((sd8.eqb sd).mp z)];refine qW rfl ?_;have gop:=ok op (Jz _) oe λj o' _ _=>by omega
   have lo:op<cntF f dy c o.2.2.2.2:=by
    rcases Int.lt_or_eq_of_le oc' with z|z
    ·exact z
    ·rw[z] at gop;exact absurd (gb.trans gop) eq
   have z8:=zA.same s8
   (open_k0;repeat (dsimp only[tBM];open_k0))
   refine⟨.inl ⟨rfl,_,SqL.of z8.1⟩,λpt H9 hpt s9 e9=> ?_⟩;have z9:=z8.same s9;have off: ∀p xs ys,H9 p=some (.tup xs)->upd H9 lt (.lst ys) p=some (.tup xs):=λp xs ys e=>by
    rw[zu (λy=>by rw[y,z9.1] at e;cases e)];exact e
   refine⟨lt,_,_,rfl,rfl,z9.1,qB (show _+1<=1000 by rw[Ja];have:=(Jc.mp hz).1;omega),?_⟩;rw[hPv];refine⟨((s7.trans s8).trans s9).put hlt _,zs++ [(pt,op,cntF f dy c o.2.2.2.2,d)],cntF f dy c o.2.2.2.2,pb,stT o0 o1 o2,_,_,_,⟨by rw[zF,Jd];rfl,λz hz'=> ?_⟩,by rw[Jj];show _+1<=_;omega,?_,λx hx=> ?_,⟨off _ _ _ (s9 _ _ e8),sd8⟩,⟨λz hz'=> ?_,_,_,_,_,so8,rfl⟩,he,λj o' hj ij _=>go' j o' hj ij,λday h1 _ h4=>all day h1 h4,rfl⟩
   ·rcases Jr.mp hz' with h|h
    ·exact(z9.2 z h).put z9.1
    ·rw[Jm.mp h];exact⟨ps,off _ _ _ e9,off _ _ _ (s9 _ _ (s8 _ _ e7)),sd⟩
   ·rw[Jd];exact Rws.snoc (z:=(op,cntF f dy c o.2.2.2.2,d)) hr rfl lo (λday h1 h2=>by
     have h2':day<cntF f dy c o.2.2.2.2:=h2;exact ok day h1 'o' λj o' hj ij=> .inr (by
      have:=go i j o o' hz hj ij;omega)) la
   ·rw[Jd,JA,JR,List.getLast?_concat] at hx;cases hx;exact λz=>eq z.symm
   ·rcases Jr.mp hz' with h|h
    ·exact zS z h
    ·rw[Jm.mp h];exact dS
 ·rw[hPv] at h;obtain⟨s7,zs,op,ps,d,x6,x7,x8,zA,zl,hr,la,⟨e7,sd⟩,⟨zS,dS⟩,oe,oc,ok,rfl⟩:=h;rw[Ja] at zl ok
  (open_k0;repeat (dsimp only[tBM];open_k0))
  refine⟨.inl ⟨rfl,_,SqL.of zA.1⟩,λpt H9 hpt s9 e9=> ?_⟩;have z9:=zA.same s9;have off: ∀p xs ys,H9 p=some (.tup xs)->upd H9 lt (.lst ys) p=some (.tup xs):=λp xs ys e=>by
   rw[zu (λy=>by rw[y,z9.1] at e;cases e)];exact e
  refine⟨lt,_,_,rfl,rfl,z9.1,qB (show _+1<=1000 by rw[Ja];omega),?_⟩;refine q lt (zs++ [(pt,op,e,d)]) _ hlt ((s7.trans s9).put hlt _) ⟨by rw[zF,Jd];rfl,λz hz'=> ?_⟩ ?_ (λz hz'=> ?_) (by rw[Jj];show _+1<=_;omega)
  ·rcases Jr.mp hz' with h|h
   ·exact(z9.2 z h).put z9.1
   ·rw[Jm.mp h];exact⟨ps,off _ _ _ e9,off _ _ _ (s9 _ _ e7),sd⟩
  ·rw[Jd];exact Rws.snoc (z:=(op,e,d)) hr rfl oe (λday h1 h2=>ok day h1 h2 λj o' hj ij=>by
    have:=(Jc.mp hj).1;omega) la
  ·rcases Jr.mp hz' with h|h
   ·exact zS z h
   ·rw[Jm.mp h];exact dS
def Ss(F:Int->Int)(a:Int):Nat->Int
 |0=>0
 |n+1=>Ss F a n+F (a+n)
theorem Ss.add(F:Int->Int)(a:Int)(m:Nat): ∀n:Nat,Ss F a (m+n)=Ss F a m+Ss F (a+m) n
 |0=>by show Ss F a m=Ss F a m+0;omega
 |n+1=>by
  show Ss F a (m+n)+F (a+(m+n:Nat))=Ss F a m+(Ss F (a+m) n+F (a+m+n));rw[Ss.add F a m n,show a+((m+n:Nat):Int)=a+m+n by omega];omega
def Sb(F:Int->Int)(a b:Int):Int:=Ss F a (b - a).toNat
theorem Sb.add{F:Int->Int}{a b c:Int}(h:a<=b)(g:b<=c):Sb F a b+Sb F b c=Sb F a c:=by
 unfold Sb
 have:=Ss.add F a (b - a).toNat (c - b).toNat;rw[show (b - a).toNat+(c - b).toNat=(c - a).toNat by omega,show a+((b - a).toNat:Int)=b by omega] at this;omega
theorem Sb.self(F:Int->Int)(a:Int):Sb F a a=0:=by unfold Sb;rw[Int.sub_self];rfl
theorem zhV(zs:List (V×Pl))(sb se b m e:Int)(d:List D):yr zs sb se b m d+yr zs sb se m e d=yr zs sb se b e d:=by
 unfold yr;split
 ·split
  ·unfold uk;omega
  ·rfl
 ·rfl
theorem zkc(zs:List (V×Pl))(sb se b:Int)(d:List D):yr zs sb se b b d=0:=by
 have:=zhV zs sb se b b b d;omega
theorem zjx{zs:List (V×Pl)}{sb se b:Int}{G:Int->List D}{d:List D}: ∀{n:Nat},(∀i:Nat,i<n->G (b+i)=d)->Ss (λo=>yr zs sb se o (o+1) (G o)) b n=yr zs sb se b (b+n) d
 |0,_=>by
  show 0=yr zs sb se b (b+(0:Nat)) d;rw[show b+((0:Nat):Int)=b by omega,zkc]
 |n+1,h=>by
  show Ss _ b n+yr zs sb se (b+n) (b+n+1) (G (b+n))=_;rw[zjx λi hi=>h i 'o',h n 'o',zhV,show b+(n:Int)+1=b+((n+1:Nat):Int) by omega]
theorem zfI{zs:List (V×Pl)}{sb se:Int}{G:Int->List D}: ∀{xs:List Rw} {b e:Int},Rws G b xs e->(xs.map λx=>yr zs sb se x.1 x.2.1 x.2.2).sum=Sb (λo=>yr zs sb se o (o+1) (G o)) b e
 | [],b,e,h=>by
  obtain rfl:b=e:=h;rw[Sb.self];rfl
 |x::r,b,e,h=>by
  obtain⟨h1,h2,h3,_,h5⟩:=h;rw[JA,List.sum_cons,zfI h5,<-Sb.add (show b<=x.2.1 by omega) (Rws.le h5)]
  have:Sb (λo=>yr zs sb se o (o+1) (G o)) b x.2.1=yr zs sb se b x.2.1 x.2.2:=by
   unfold Sb;rw[zjx (d:=x.2.2) λi hi=>h3 _ 'o' 'o',show b+((x.2.1 - b).toNat:Int)=x.2.1 by omega]
  rw[this,h1]
def vb(zs:List (V×Pl))(sb se:Int)(H:Hp)(z:Addr×Rw):Prop:= ∃s,H z.1=some (.tup [.int z.2.1, .int z.2.2.1, .ref s, .int (yr zs sb se z.2.1 z.2.2.1 z.2.2.2)])/\H s=some (.tup (z.2.2.2.map sv))/\StD z.2.2.2
def LnR(zs:List (V×Pl))(sb se:Int)(H:Hp)(r:Addr)(ws:List (Addr×Rw)):Prop:=H r=some (.lst (ws.map λw=>V.ref w.1))/\ ∀w∈ws,vb zs sb se H w
theorem vb.same{z:Addr×Rw}(h:vb zs sb se H z)(s:zk H H'):vb zs sb se H' z:=let ⟨a,h1,h2,h3⟩:=h;⟨a,s _ _ h1,s _ _ h2,h3⟩
theorem vb.put{z:Addr×Rw}{ys:List V}(h:vb zs sb se H z)(e:H l=some (.lst xs)):vb zs sb se (upd H l (.lst ys)) z:=by
 obtain⟨a,h1,h2,h3⟩:=h;refine⟨a,?_,?_,h3⟩
 ·rw[zu (λy=>by rw[y,e] at h1;cases h1)];exact h1
 ·rw[zu (λy=>by rw[y,e] at h2;cases h2)];exact h2
def zg3(K:Fg):Sp:=λvs H Q _=> ∃(pa l p1 la:Addr) (f:Int) (dy:Bool) (c:Int) (zs:List (V×Pl)) (sb se e:Int) (os:List Or') (G:Int->List D),vs= [.ref pa, .ref l, .ref p1, .int e]/\yG K H pa la f dy c zs/\w6 K H l f dy c os/\H p1=some (.tup [.int sb, .int se])/\sb<=e/\e<=se/\sb<se/\se - sb<10 ^ 10/\IsG f dy c (os.map (·.2)) G/\(∀o∈os,TmX zs o.2.2.2.2)/\ ∀r ws H',H r=none->zk H H'->LnR zs sb se H' r ws->ws.length<=64->Rws G sb (ws.map (·.2)) e->Q (.ref r) H'
theorem sc_0j:FnScope ["account","ordered","span","day","lines","stretch","begin","end","state"] ["account","ordered","span","day"] (zE s_0j):=by sl_open
theorem ok_0j(T:Txt w K mg t):FnOk P w K mg base (CXE P w) 3 t.a_0j t.d_0j ["account","ordered","span","day"] (zg3 K):=by
 refine T.F_0j.fn.okX sc_0j ?_ λcdv A outer s H vs Q E L hr h=> ?_
 ·kdl_open
 obtain⟨pa,l,p1,la,f,dy,c,zs,sb,se,e,os,G,rfl,hz,ho,e1,h1,h2,h3,h4,hG,hx,q⟩:=h;have nd:=sc_0j.nd;refine⟨_,(zj (psJ 4 nd (zY ze)) (zj (qp (by passes_own) rfl (qo (peD L.toLv (ok_0g T) hr T.F_0g (zb (pvJ 1) (zb (ixJ zQ (pvJ 2) zc) (zb (pvJ 3) ze zg) yf) zg))) (zr (i:=5) nd rfl (Or.inl rfl)) (zj (yB (pvJ 5) (zZ (n:=3) rfl (zH (zr (i:=6) nd rfl (Or.inl rfl)) (zH (zr (i:=7) nd rfl (Or.inl rfl)) (zH (zr (i:=8) nd rfl (Or.inl rfl)) yF))))) (zq (yU (qd PySem.F.plainAttrs_list PySem.F.slot_list_append PySem.F.type_list_append qq (pvJ 4) (zb (zN (zb (pvJ 6) (zb (pvJ 7) (zb (pvJ 8) (zb (peD L.toLv (ok_0i T) hr T.F_0i (zb (pvJ 0) (zb (pvJ 2) (zb (pvJ 5) ze zg) zg) zg)) ze yI) zg) zg) zg)) ze)))))) (zq (zD (pvJ 4))))),?_⟩;open_k0;intro lt H1 hlt s1 e2
 ((try dsimp only);refine qC λR hR=> ?_;(open_k0;repeat (dsimp only[yH,qm,qr,qb,qx];open_k0)))
 refine ixT (SqT.of (s1 _ _ e1)) (z5 _ _) ⟨l,sb,e,f,dy,c,os,G,rfl,ho.same s1,h1,hG,λr ys H2 nr s2 yA yW yS yl=> ?_⟩;refine⟨r,rfl,⟨_,SqL.of yA.1⟩,hR _ _ ?_⟩;clear hR;have s12:=s1.trans s2;have e22:=s2 _ _ e2;have rl:r≠lt:=λz=>by rw[z,e2] at nr;cases nr
 obtain⟨Pv,hPv⟩: ∃Pv:Nat->St->Hp->Prop,Pv=λi σ1 H7=>zk H H7/\vA H7 r ys/\ ∃(ws:List (Addr×Rw)) (x5 x6 x7 x8:Option V),LnR zs sb se H7 lt ws/\ws.length=i/\ws.map (·.2)=(ys.take i).map (·.2)/\σ1= [some (.ref pa),some (.ref l),some (.ref p1),some (.int e),some (.ref lt),x5,x6,x7,x8]:=⟨_,rfl⟩
 refine ve (xs:=ys.map λy=>V.ref y.1) Pv (by rw[hPv];exact⟨s12,yA, [],_,_,_,_,⟨e22,(λ_ h=>nomatch h)⟩,rfl,rfl,rfl⟩) (λ_ _ _ _ h=>by rw[hPv] at h;exact SqL.of h.2.1.1) (λi x σ1 H7 hxx h=> ?_) (λσ1 H7 h=> ?_)
 ·rw[hPv] at h;obtain⟨s7,yA7,ws,x5,x6,x7,x8,wA,wl,wm,rfl⟩:=h;obtain⟨y,hy,rfl⟩: ∃y,ys[i]? =some y/\x= .ref y.1:=by
   rw[Jh] at hxx;obtain⟨u,e,rfl⟩:=Jk.mp hxx;exact⟨u,e,rfl⟩
  have hm:=Ji hy;obtain⟨s,g1,g2,g3⟩:=yA7.2 y hm;obtain⟨dd,o0,o1,o2,so,ey⟩:=yS y hm;have sx:=st_x (zs:=zs) (λt h=>by obtain⟨o,ho',rfl⟩:=Jw.mp h;exact(ho.2.2.1 o ho').2.2.1) (λt h=>by obtain⟨o,ho',rfl⟩:=Jw.mp h;exact hx o ho') so;rw[<-ey] at sx;obtain⟨r1,r2,r3⟩:=Rws.in hy yW
  (open_k0;repeat (dsimp only[tBM];open_k0))
  refine⟨y.1,_,rfl,SqT.of g1,rfl,?_⟩
  (open_k0;repeat (dsimp only[tBM];open_k0))
  refine⟨.inl ⟨rfl,_,SqL.of wA.1⟩,pa,la,f,dy,c,zs,_,p1,y.1,s,sb,se,_,_,rfl,hz.same s7,sx,s7 _ _ e1,g1,g2,r1,'o','o',h3,h4,λH3 s3=> ?_⟩;intro p4 H4 _ s4 e4;have s74:=s3.trans s4;have w4:=s74 _ _ wA.1;have off: ∀p xs zs',H4 p=some (.tup xs)->upd H4 lt (.lst zs') p=some (.tup xs):=λp xs zs' h=>by
   rw[zu (λz=>by rw[z,w4] at h;cases h)];exact h
  refine⟨lt,_,_,rfl,rfl,w4,qi (show (ws.map λw=>V.ref w.1).length<=1000 by rw[Ja];have:=(Jc.mp hy).1;omega),?_⟩;rw[hPv];refine⟨(s7.trans s74).put hlt _,⟨by rw[zu rl];exact s74 _ _ yA7.1,λz hz'=>((yA7.2 z hz').same s74).put w4⟩,ws++ [(p4,y.2)],_,_,_,_,⟨by rw[zF,Jd];rfl,λw hw=> ?_⟩,by rw[Jj,wl];rfl,?_,rfl⟩
  ·rcases Jr.mp hw with h|h
   ·exact((wA.2 w h).same s74).put w4
   ·rw[Jm.mp h];exact⟨s,off _ _ _ e4,off _ _ _ (s74 _ _ g2),g3⟩
  ·rw[Jd,wm,JH,hy,Option.toList_some,Jd];rfl
 ·rw[hPv] at h;obtain⟨s7,yA7,ws,x5,x6,x7,x8,wA,wl,wm,rfl⟩:=h;rw[Ja,JC] at wm;rw[Ja] at wl;open_k0;refine q lt ws H7 hlt s7 wA 'o' ?_;rw[wm];exact yW
def zl9(K:Fg):Sp:=λvs H Q _=> ∃(l:Addr) (zs:List (V×Pl)) (sb se:Int) (ws:List (Addr×Rw)),vs= [.ref l]/\LnR zs sb se H l ws/\ws.length<=64/\ ∀H',zk H H'->Q (.int ((ws.map (·.2)).map λx=>yr zs sb se x.1 x.2.1 x.2.2).sum) H'
theorem sc_0k:FnScope ["lines"] ["lines"] (zE s_0k):=by sl_open
theorem ok_0k(T:Txt w K mg t):FnOk P w K mg base (CXE P w) 1 t.a_0k t.d_0k ["lines"] (zl9 K):=by
 refine T.F_0k.fn.okX sc_0k ?_ λcdv A outer s H vs Q E L hr h=> ?_
 ·kdl_open
 obtain⟨l,zs,sb,se,ws,rfl,wA,wl,q⟩:=h;have nd:=sc_0k.nd;refine⟨_,(zq (zD (ye (zkV (by rfl)) (by rfl) T.no_sum j3 (zb (xB (n:=1) (N:= ["line"]) (js:= []) (by rfl) rfl rfl (qo (pvJ 0)) (λa=>(zr (i:=0) (show List.Nodup (["line"]:List Str) from by decide+kernel) rfl (Or.inl rfl))) (λa=>xL) (λa=>(ixJ zQ (pvJ 0) zc))) ze)))),?_⟩
 (open_k0;repeat (dsimp only[qG,yH];open_k0))
 refine⟨⟨_,SqL.of wA.1⟩,λl2 hl2 aa=> ?_⟩;refine qQ (λj xs _=>xs=(((ws.take j).map (·.2)).map λx=>yr zs sb se x.1 x.2.1 x.2.2).map V.int) (xZ (SqL.of wA.1)) hl2 (by rw[Ja];exact qj 'o') (λ_ _=>rfl) (λj y xs H8 K1 K0 hx sm pv hl k1 k0=> ?_) (λxs H2 s2 pv _ w2=> ?_)
 ·obtain⟨w',hw,rfl⟩: ∃w',ws[j]? =some w'/\y= .ref w'.1:=by
   rw[Jh] at hx;obtain⟨u,e,rfl⟩:=Jk.mp hx;exact⟨u,e,rfl⟩
  obtain⟨s,a4,_,_⟩:=wA.2 w' (Ji hw);open_k0;refine ixT (SqT.of (sm _ _ a4)) (zq3 _ _ _ _ _) (k1 _ _ (zk.refl _) λH5 _=> ?_);rw[pv,JH,hw,Option.toList_some,Jd,Jd,Jd];rfl
 ·rw[Ja,JC] at pv;subst pv;exact⟨l2,rfl,_,SqL.of w2,q H2 s2⟩
def ju(f:Int)(dy:Bool)(c:Int)(ts:List Tm)(G:Int->List D):Prop:= ∀ts',(∀t,t∈ts'↔t∈ts)->IsG f dy c ts' G
theorem zma{os:List Or'}(om: ∀t,t∈os.map (·.2)↔t∈ts)(hx: ∀t∈ts,TmX zs t.2.2.2): ∀o∈os,TmX zs o.2.2.2.2:=λo h=>hx o.2 ((om o.2).mp (Jw.mpr ⟨o,h,rfl⟩))
def zhW(K:Fg)(t:Adr):Sp:=λvs H Q E=> ∃(pa l la:Addr) (f:Int) (dy:Bool) (c:Int) (zs:List (V×Pl)) (ts:List Tm) (G:Int->List D) (k:Int),vs= [.ref pa, .ref l, .int k]/\yG K H pa la f dy c zs/\xT K H l f (Cal.beg f dy c 60) ts/\(∀t∈ts,TmX zs t.2.2.2)/\ju f dy c ts G/\(0<=k->k<60-> ∀r ws H',H r=none->zk H H'->LnR zs (Cal.beg f dy c k) (Cal.beg f dy c (k+1)) H' r ws->ws.length<=64->Rws G (Cal.beg f dy c k) (ws.map (·.2)) (Cal.beg f dy c (k+1))->Q (.ref r) H')/\(k<0-> ∀H',zk H H'->E (.ref t.c_Z06) none H')/\(60<=k-> ∀H',zk H H'->E (.ref t.c_Z0c) none H')
theorem sc_0l:FnScope ["account","terms","k","span"] ["account","terms","k"] (zE s_0l):=by sl_open
theorem ok_0l(T:Txt w K mg t):FnOk P w K mg base (CXE P w) 10 t.a_0l t.d_0l ["account","terms","k"] (zhW K t):=by
 refine T.F_0l.fn.okX sc_0l ?_ λcdv A outer s H vs Q E L hr h=> ?_
 ·kdl_open
 obtain⟨pa,l,la,f,dy,c,zs,ts,G,k,rfl,hz,ht,hx,hG,q,q2,q3⟩:=h;have nd:=sc_0l.nd;refine⟨_,(zj (psJ 3 nd (peD L.toLv (ok_0a T) hr T.F_0a (zb (pvJ 0) (zb (pvJ 2) ze zg) zg))) (zq (zD (peD L.toLv (ok_0j T) hr T.F_0j (zb (pvJ 0) (zb (peD L.toLv (ok_0e T) hr T.F_0e (zb (pvJ 0) (zb (pvJ 1) ze zg) zg)) (zb (pvJ 3) (zb (ixJ zQ (pvJ 3) zc) ze yf) zg) yI) zg))))),?_⟩;obtain⟨f0,f1,hc⟩:=hz.1.cyc;open_k0;refine⟨pa,la,f,dy,c,k,rfl,hz.1,λk0 k1 p1 H1 s1 e1=> ?_,q2,q3⟩;have bw:=zfE f0 f1 hc k0 k1;refine⟨pa,l,la,f,dy,c,ts,rfl,hz.1.same s1,ht.same s1,λl2 os H2 s2 ho om=> ?_⟩;refine ixT (SqT.of (s2 _ _ e1)) (yY _ _ _) ?_;exact⟨pa,l2,p1,la,f,dy,c,zs,_,_,_,os,G,rfl,hz.same (s1.trans s2),ho,s2 _ _ e1,'o',Jz _,bw.2.1,'o',hG _ om,zma om hx,λr ws H3 nr s3 wA wl ws'=>q k0 k1 r ws H3 ((s1.trans s2).none nr) ((s1.trans s2).trans s3) wA wl ws'⟩
def ziN(K:Fg)(t:Adr):Sp:=λvs H Q E=> ∃(pa l la:Addr) (f:Int) (dy:Bool) (c:Int) (zs:List (V×Pl)) (ts:List Tm) (G:Int->List D) (k:Int),vs= [.ref pa, .ref l, .int k]/\yG K H pa la f dy c zs/\xT K H l f (Cal.beg f dy c 60) ts/\(∀t∈ts,TmX zs t.2.2.2)/\ju f dy c ts G/\(0<=k->k<60-> ∀H',zk H H'->Q (.int (Sb (λo=>yr zs (Cal.beg f dy c k) (Cal.beg f dy c (k+1)) o (o+1) (G o)) (Cal.beg f dy c k) (Cal.beg f dy c (k+1)))) H')/\(k<0-> ∀H',zk H H'->E (.ref t.c_Z06) none H')/\(60<=k-> ∀H',zk H H'->E (.ref t.c_Z0c) none H')
theorem sc_0m:FnScope ["account","terms","k"] ["account","terms","k"] (zE s_0m):=by sl_open
theorem ok_0m(T:Txt w K mg t):FnOk P w K mg base (CXE P w) 11 t.a_0m t.d_0m ["account","terms","k"] (ziN K t):=by
 refine T.F_0m.fn.okX sc_0m ?_ λcdv A outer s H vs Q E L hr h=> ?_
 ·kdl_open
 obtain⟨pa,l,la,f,dy,c,zs,ts,G,k,rfl,hz,ht,hx,hG,q,q2,q3⟩:=h;have nd:=sc_0m.nd;refine⟨_,(zq (zD (peD L.toLv (ok_0k T) hr T.F_0k (zb (peD L.toLv (ok_0l T) hr T.F_0l (zb (pvJ 0) (zb (pvJ 1) (zb (pvJ 2) ze zg) zg) zg)) ze)))),?_⟩;open_k0;refine⟨pa,l,la,f,dy,c,zs,ts,G,k,rfl,hz,ht,hx,hG,λk0 k1 r ws H1 _ s1 wA wl ws'=>⟨r,zs,_,_,ws,rfl,wA,wl,λH2 s2=> ?_⟩,q2,q3⟩;rw[zfI ws'];exact q k0 k1 H2 (s1.trans s2)
def EnB(f e:Int)(zs:List En):Prop:= ∀z∈zs,yL z.2.2.2=true->TmB f e z.2.2.2
theorem EnB.of{f:Int}{zs:List En}(h:qK nms f e zs):EnB f e zs:=λz hz tm=>by
 obtain⟨i,hi,ez⟩:=List.mem_iff_getElem.mp hz;have ci:=(h i z (by rw[Jb hi,ez])).2.2.2;cases hch:z.2.2.2 with
 |plan d nm=>rw[hch] at ci;exact⟨rfl,ci.1,ci.2.1,λw d h=>by cases h⟩
 |seats d n=>rw[hch] at ci;exact⟨rfl,ci.1,ci.2.1,λw d h=>by cases h⟩
 |word w d=>rw[hch] at ci;exact⟨rfl,ci.2.1,ci.2.2,λw d h=>by cases h;exact ci.1⟩
 |undo k=>rw[hch] at tm;cases tm
 |grant k=>rw[hch] at tm;cases tm
 |back=>rw[hch] at tm;cases tm
def jv:List (List Nat):= [[112,108,97,110], [115,101,97,116,115], [104,111,108,100], [103,111], [115,116,111,112], [108,97,115,116]]
theorem jw(w:Nat):qV w∈jv/\qV w≠ [112,108,97,110]/\qV w≠ [115,101,97,116,115]:=by
 match w with
 |0=>exact⟨'d','d','d'⟩
 |1=>exact⟨'d','d','d'⟩
 |2=>exact⟨'d','d','d'⟩
 |n+3=>exact⟨(by decide: [108,97,115,116]∈jv),(by decide: [108,97,115,116]≠ [112,108,97,110]),(by decide: [108,97,115,116]≠ [115,101,97,116,115])⟩
theorem zmb(c:Ch):decide (chW c∈jv)=yL c:=by
 cases c with
 |plan=>rfl
 |seats=>rfl
 |word w _=>exact JO (jw w).1
 |undo=>rfl
 |grant=>rfl
 |back=>rfl
def zmc(K:Fg):Sp:=λvs H Q _=> ∃(p:Addr) (c:Ch),vs= [.ref p]/\SqT K H p ((chD c).map sv)/\Q (.bl (yL c)) H
theorem sc_0n:FnScope ["change"] ["change"] (zE s_0n):=by sl_open
theorem ok_0n(T:Txt w K mg t):FnOk P w K mg base (CXE P w) 1 t.a_0n t.d_0n ["change"] (zmc K):=by
 refine T.F_0n.fn.okX sc_0n ?_ λcdv A outer s H vs Q E L hr h=> ?_
 ·kdl_open
 obtain⟨p,c,rfl,hp,q⟩:=h;have nd:=sc_0n.nd;obtain⟨a_Z0b,h_Z0b,q_Z0b⟩:=T.k_Z0b;have r_Z0b:zw (.ref a_Z0b) (.ref a_Z0b):=rfl;refine⟨_,(zq (zD (xt zfZ (ixJ zQ (pvJ 0) zc) (qO (by rfl) h_Z0b r_Z0b) rfl))),?_⟩;obtain⟨r,er⟩:=zhv c;rw[er] at hp;open_k0;refine ixT hp (z5 _ _) ⟨a_Z0b,_,rfl, .inr (q_Z0b _),rfl,rfl,?_⟩;have e:inV (.str (SL (chW c))) (jv.map λx=>V.str (SL x))=yL c:=by rw[zht,zmb]
 exact e ▸ q
def xp(zs:List En)(k:Int):V:=((zs[k.toNat]?).map λz=>V.ref z.2.1).getD .non
def ziO(K:Fg):Sp:=λvs H Q _=> ∃(a:Addr) (zs:List En),vs= [.ref a]/\SqL K H a (zs.map (·.1))/\yE K H zs/\zs.length<=63/\(∀i z k,zs[i]? =some z->z.2.2.2= .undo k->k∈ym (chs (zs.take i)))/\ ∀r H',zk H H'->H' r=some (.dK (kvG (xp zs) (ym (chs zs))))->Q (.ref r) H'
theorem sc_0o:FnScope ["entries","standing","number","entry","change"] ["entries"] (zE s_0o):=by sl_open
theorem ok_0o(T:Txt w K mg t):FnOk P w K mg base (CXE P w) 2 t.a_0o t.d_0o ["entries"] (ziO K):=by
 refine T.F_0o.fn.okX sc_0o ?_ λcdv A outer s H vs Q E L hr h=> ?_
 ·kdl_open
 obtain⟨a,zs,rfl,hS,hE,z63,hu,q⟩:=h;have nd:=sc_0o.nd;refine⟨_,(zj (psJ 1 nd kA) (zj (qp (by passes_own) rfl (v7 (by rfl) T.no_enumerate (zb (pvJ 0) ze)) (zZ (n:=2) rfl (yt (zr (i:=2) nd rfl (Or.inl rfl)) (yt (zr (i:=3) nd rfl (Or.inl rfl)) qT))) (zj (psJ 4 nd (ixJ zQ (pvJ 3) zc)) (zj (wJ (zP (qL (xH (peD L.toLv (ok_0n T) hr T.F_0n (zb (pvJ 4) ze)))) (zq (xi (yn hr) (pvJ 1) (pvJ 2) (pvJ 4) rfl)) zR)) (zq (zP (qe (ixJ zQ (pvJ 4) zc) (zI st_13)) (zq (yU (zk7 (pvJ 1) (ixJ zQ (pvJ 4) zc) ⟨by rfl,by rfl,by rfl,by rfl⟩))) zR))))) (zq (zD (pvJ 1))))),?_⟩;open_k0;intro dd H1 hdd s1 e1
 ((try dsimp only);refine qC λR hR=> ?_;(open_k0;repeat (dsimp only[yH,qm,qr,qb,qx];open_k0)))
 refine⟨⟨_,s1.seq hS⟩,hR _ _ ?_⟩;clear hR;refine uO (xs:=zs.map (·.1)) (λi σ1 H2=>zk H H2/\H2 dd=some (.dK (kvG (xp zs) (ym (chs (zs.take i)))))/\ ∃(x2 x3 x4:Option V),σ1= [some (.ref a),some (.ref dd),x2,x3,x4]) ⟨s1,e1,_,_,_,rfl⟩ (λi σ1 H1 _ h=>h.1.seq hS) (λi σ1 H1 H2 h s=>⟨h.1.trans s,s _ _ h.2.1,h.2.2⟩) (λi x σ1 H2 hx h=> ?_) (λσ1 H2 h=> ?_)
 ·obtain⟨s2,e2,x2,x3,x4,rfl⟩:=h;obtain⟨z,hz,rfl⟩: ∃z,zs[i]? =some z/\x=z.1:=by
   rw[Jh] at hx;obtain⟨u,e,rfl⟩:=Jk.mp hx;exact⟨u,e,rfl⟩
  obtain⟨pe,ee,q1,q2⟩:=(hE.same s2) z (Ji hz);have hi:=(Jc.mp hz).1;have li:(ym (chs (zs.take i))).length<100:=by have:=kD (chs (zs.take i));rw[wg,JB] at this;omega
  have pz:xp zs (i:Int)= .ref z.2.1:=by unfold xp;rw[JF,hz];rfl
  have nx:=zin hz;have ni:=(wP (chs (zs.take i))).2;rw[wg,JB,Nat.min_eq_left 'o'] at ni;have nd:=(wP (chs (zs.take i))).1;have hui:=hu i z;rw[ee];open_k0;refine ixT q1 (yY _ _ _) ?_;generalize hc:z.2.2.2=c at q2 nx hui;generalize ym (chs (zs.take i))=S at e2 li nx ni nd hui;obtain⟨R,hR⟩: ∃R:St->Hp->Prop,R=λσ' H'=>zk H H'/\H' dd=some (.dK (kvG (xp zs) (if yL c=true then S++ [(i:Int)] else S)))/\σ'= [some (.ref a),some (.ref dd),some (.int i),some (.ref pe),some (.ref z.2.1)]:=⟨_,rfl⟩
  refine⟨R,?_,λσ3 H3 h3=> ?_⟩
  ·open_k0;refine⟨z.2.1,c,rfl,q2,_,rfl,y8 (λtm=> ?_) (λtm=> ?_)⟩
   ·refine⟨_,qk.k (k:=Sum.inl (i:Int)) e2 (qB (show (kvG (xp zs) S).length+1<=1000 by unfold kvG;rw[Ja];omega)),?_⟩;rw[hR];refine⟨s2.put hdd _,?_,rfl⟩;rw[zF,Jg tm,<-pz,zoG _ (λy=>by have:=(ni _ y).2;omega)]
   ·rw[hR];exact⟨s2,by rw[Jf tm];exact e2,rfl⟩
  rw[hR] at h3;obtain⟨s3,e3,rfl⟩:=h3;clear hR;open_k0;obtain⟨_,_,_,q3⟩:=(hE.same s3) z (Ji hz);rw[hc] at q3;rw[nx];obtain⟨r,er⟩:=zhv c;have q3':=q3;rw[er] at q3';refine ixT q3' (z5 _ _) ⟨rfl,?_⟩;cases c with
  |plan=>exact zW (yD (show [112,108,97,110]≠ [117,110,100,111] by decide)) ⟨s3,e3⟩
  |seats=>exact zW (yD (show [115,101,97,116,115]≠ [117,110,100,111] by decide)) ⟨s3,e3⟩
  |word w d=>exact zW (yD (λz=>absurd ((jw w).1) (by rw[show qV w=_ from z];decide))) ⟨s3,e3⟩
  |grant=>exact zW (yD (show [103,114,97,110,116]≠ [117,110,100,111] by decide)) ⟨s3,e3⟩
  |back=>exact zW (yD (show [98,97,99,107]≠ [117,110,100,111] by decide)) ⟨s3,e3⟩
  |undo k=>
   have q3:SqT K H3 z.2.1 [.str (SL [117,110,100,111]), .int k]:=q3;have hk:=hui k hz rfl;refine qW rfl ⟨.inl ⟨_,Rd.of e3⟩,ixT q3 (yY _ _ _) ⟨_,e3,Sum.inl k,rfl,_,(by show y9 (kvG (xp zs) S) (Sum.inl k)=_;rw[kE,Jg hk]),s3.put hdd _,?_⟩⟩;rw[zF];show some (HO.dK (wc (kvG (xp zs) S) (Sum.inl k)))=_;rw[zi6 _ _ nd];rfl
 ·obtain⟨s2,e2,x2,x3,x4,rfl⟩:=h;rw[Ja,JC] at e2;open_k0;exact q dd H2 s2 e2
def zqE(H:Hp)(zs:List En)(Ls:List Int)(as:List Addr):Prop:=as.length=Ls.length/\ ∀(i:Nat) (p:Addr) (k:Int),as[i]? =some p->Ls[i]? =some k-> ∃z,zs[k.toNat]? =some z/\H p=some (.tup [.int k, .ref z.2.1])
def zV(zs:List En)(mo:Int):List Int:=ym (chs (zs.take (mOf zs mo)))
def zkd(K:Fg):Sp:=λvs H Q _=> ∃(a:Addr) (zs:List En) (mo:Int),vs= [.ref a, .int mo]/\SqL K H a (zs.map (·.1))/\yE K H zs/\zs.length<=40/\zs.Pairwise (λa b=>a.2.2.1<=b.2.2.1)/\xj (chs zs)/\ ∀r as H',H r=none->zk H H'->H' r=some (.lst (as.map V.ref))->zqE H' zs (zV zs mo) as->Q (.ref r) H'
theorem sc_0p:FnScope ["entries","moment","known"] ["entries","moment"] (zE s_0p):=by sl_open
theorem ok_0p(T:Txt w K mg t):FnOk P w K mg base (CXE P w) 3 t.a_0p t.d_0p ["entries","moment"] (zkd K):=by
 refine T.F_0p.fn.okX sc_0p ?_ λcdv A outer s H vs Q E L hr h=> ?_
 ·kdl_open
 obtain⟨a,zs,mo,rfl,hS,hE,z40,hp,ho,q⟩:=h;have nd:=sc_0p.nd;refine⟨_,(zj (vo (i:=2) nd rfl rfl (n:=1) (N:= ["entry","moment"]) (js:= [1]) (by rfl) rfl rfl (qo (pvJ 0)) (λa=>(zr (i:=0) (show List.Nodup (["entry","moment"]:List Str) from by decide+kernel) rfl (Or.inl rfl))) (λa=>(wN (ql zlD (ixJ zQ (pvJ 0) zc) (pvJ 1) (yu _)))) (λa=>(pvJ 0))) (zq (zD (zgL (by rfl) (by rfl) T.no_list (peD L.toLv (ok_0o T) hr T.F_0o (zb (pvJ 2) ze)) (by rfl) (by rfl))))),?_⟩;open_k0;obtain⟨kt,kb⟩:=zfg mo hp;have ml:mOf zs mo<=zs.length:=List.length_filter_le _ _;first|refine⟨a,rfl,⟨_,hS⟩,λl2 hl2 aa=> ?_⟩|refine⟨_,rfl,a,rfl,⟨_,hS⟩,λl2 hl2 aa=> ?_⟩
 refine qQ (λj xs _=>xs=((zs.take j).filter (enL mo)).map (·.1)) (xZ hS) hl2 (by rw[Ja];exact qj 'o') (λ_ _=>rfl) (λj x xs H8 K1 K0 hx sm pv hl k1 k0=> ?_) (λxs H2 s2 pv _ w2=> ?_)
 ·obtain⟨z,hz,rfl⟩: ∃z,zs[j]? =some z/\x=z.1:=by
   rw[Jh] at hx;obtain⟨u,e,rfl⟩:=Jk.mp hx;exact⟨u,e,rfl⟩
  obtain⟨pe,ee,q1,q2⟩:=(hE.same sm) z (Ji hz);have ez:(zs.take (j+1)).filter (enL mo)=(zs.take j).filter (enL mo)++ [z].filter (enL mo):=by rw[JH,hz,Option.toList_some,JT]
  rw[ee];open_k0;refine ixT q1 (z5 _ _) ⟨_,rfl,y8 (λh=>k1 _ _ (zk.refl _) λH' _=> ?_) (λh=>k0 _ (zk.refl _) ?_)⟩
  ·rw[ez,List.filter_cons_of_pos (show enL mo z=true from JO h),Jd,pv,<-ee];rfl
  ·rw[ez,List.filter_cons_of_neg (show¬enL mo z=true from by unfold enL;simpa using h),Jd,pv];exact(Jt _).symm
 rw[Ja,JC,kt] at pv;subst pv;have uo:xj (chs (zs.take (mOf zs mo))):=by rw[v8];exact ho.take _
 refine⟨l2,zs.take (mOf zs mo),rfl,SqL.of w2,(hE.same s2).take _,by rw[JB];omega,λi z k hz hk=> ?_,λr H3 s3 e3=>⟨r,rfl,_,e3,λl H4 as nl s4 al ak e4=>q l as H4 (by
  rcases hh:H l with _|o
  ·rfl
  ·rw[(s2.trans s3) _ _ hh] at nl;cases nl) ((s2.trans s3).trans s4) e4 ⟨?_,λi p k hp' hk'=> ?_⟩⟩⟩
 ·rw[v8];refine uo i k ?_;unfold chs;rw[Jh,hz];exact congrArg some hk
 ·rw[al];exact Ja ..
 ·have kin:=(wP (chs (zs.take (mOf zs mo)))).2 k (Ji hk');rw[wg,JB] at kin;have kl:k.toNat<zs.length:=by omega
  refine⟨zs[k.toNat],Jb kl,?_⟩
  have:=ak i (Sum.inl k,xp (zs.take (mOf zs mo)) k) p (by
   unfold kvG;rw[Jh];show Option.map _ (zV zs mo)[i]? =_;rw[hk'];rfl) hp'
  rw[this];show some (HO.tup [V.int k,xp (zs.take (mOf zs mo)) k])=_;unfold xp;rw[List.getElem?_take,Jg 'o',Jb kl];rfl
noncomputable def rtK(f:Int)(dy:Bool)(c:Int)(zs:List En)(k:Int):Rt:=rtF f dy c k (zs.getD k.toNat (.non,0,0, .back)).2.2.2
def GL(f:Int)(dy:Bool)(c:Int)(zs:List En)(mo:Int)(G:Int->List D):Prop:= ∀ts:List Tm,ts.map (rtT f dy c)=(zV zs mo).map (rtK f dy c zs)->ju f dy c ts G
theorem zfK{zs:List En}{mo:Int}(hp:zs.Pairwise (λa b=>a.2.2.1<=b.2.2.1))(ho:xj (chs zs)):(zV zs mo).Nodup/\ ∀k∈zV zs mo,∃z,0<=k/\zs[k.toNat]? =some z/\yL z.2.2.2=true:=by
 have ml:mOf zs mo<=zs.length:=List.length_filter_le _ _;obtain⟨cs,hcs⟩: ∃cs,cs=chs (zs.take (mOf zs mo)):=⟨_,rfl⟩
 have csl:cs.length=mOf zs mo:=by rw[hcs,wg,JB];omega
 have uo:xj cs:=by rw[hcs,v8];exact ho.take _
 have sd:=(zf9 cs uo cs.length (Je _)).1;rw[JC] at sd;refine⟨(wP (chs (zs.take (mOf zs mo)))).1,λk hk=> ?_⟩;unfold zV at hk;rw[<-hcs,sd] at hk;unfold wj at hk;obtain⟨j,hj,rfl⟩:=Jw.mp hk;obtain⟨h1,h2⟩:=List.mem_filter.mp hj;have hj:=List.mem_range.mp h1;have tm:xO cs[j]? =true:=by
  rw[Bool.and_eq_true] at h2;exact h2.1
 have jl:j<zs.length:=by omega
 refine⟨zs[j],'o',by rw[JF];exact Jb jl,?_⟩;have e:cs[j]? =some (zs[j]).2.2.2:=by
  rw[hcs,v8,List.getElem?_take,Jg 'o'];unfold chs;rw[Jh,Jb jl];rfl
 rw[e] at tm;exact tm
theorem zfL{zs:List En}{mo f:Int}{as:List Addr}(dy:Bool)(c:Int)(hp:zs.Pairwise (λa b=>a.2.2.1<=b.2.2.1))(ho:xj (chs zs))(z40:zs.length<=40)(hE:yE K H zs)(hB:EnB f e zs)(er:H r=some (.lst (as.map V.ref)))(ht:zqE H zs (zV zs mo) as): ∃ts:List Tm,xT K H r f e ts/\ts.map (rtT f dy c)=(zV zs mo).map (rtK f dy c zs)/\ ∀t∈ts,∃z∈zs,t.2.2.2=z.2.2.2:=by
 obtain⟨kn,ki⟩:=zfK (mo:=mo) hp ho;obtain⟨al,av⟩:=ht;have kl:(zV zs mo).length<=40:=by
  have:=kD (chs (zs.take (mOf zs mo)));rw[wg,JB] at this;unfold zV;omega
 obtain⟨g,hg⟩: ∃g:Addr×Int->Tm,g=λx=>(x.1,(zs.getD x.2.toNat (.non,0,0, .back)).2.1,x.2,(zs.getD x.2.toNat (.non,0,0, .back)).2.2.2):=⟨_,rfl⟩
 have gd: ∀k z,zs[Int.toNat k]? =some z->zs.getD k.toNat (.non,0,0, .back)=z:=λk z h=>by rw[Jo,h];rfl
 have zm: ∀x∈as.zip (zV zs mo),∃z,0<=x.2/\zs[x.2.toNat]? =some z/\yL z.2.2.2=true/\H x.1=some (.tup [.int x.2, .ref z.2.1]):=λx hx=>by
  obtain⟨i,hi,ei⟩:=List.mem_iff_getElem.mp hx;rw[List.length_zip] at hi;rw[List.getElem_zip] at ei;have h1:as[i]? =some x.1:=by rw[Jb 'o',<-ei]
  have h2:(zV zs mo)[i]? =some x.2:=by rw[Jb 'o',<-ei]
  obtain⟨z,e1,e2⟩:=av i x.1 x.2 h1 h2;obtain⟨z',k0,e3,tm⟩:=ki x.2 (Ji h2);rw[e1] at e3;cases e3;exact⟨z,k0,e1,tm,e2⟩
 have zl:(as.zip (zV zs mo)).length<=40:=by rw[List.length_zip];omega
 refine⟨(as.zip (zV zs mo)).map g,⟨?_,by rw[Ja];omega,λt h=> ?_,?_⟩,?_,λt h=> ?_⟩
 ·rw[er,List.map_map]
  have:(as.zip (zV zs mo)).map ((λt:Tm=>V.ref t.1) ∘ g)=((as.zip (zV zs mo)).map (·.1)).map V.ref:=by rw[List.map_map,hg];rfl
  rw[this,List.map_fst_zip 'o']
 ·obtain⟨x,hx,rfl⟩:=Jw.mp h;obtain⟨z,k0,e1,tm,e2⟩:=zm x hx;have hz:=Ji e1;have kl2:=(Jc.mp e1).1;obtain⟨pe,_,_,q2⟩:=hE z hz;rw[hg];dsimp only;rw[gd _ _ e1];exact⟨⟨e2,q2⟩,⟨k0,by show x.2<64;omega⟩,hB z hz tm⟩
 ·rw[List.pairwise_map,hg]
  have:((as.zip (zV zs mo)).map (·.2)).Pairwise (· ≠ ·):=by rw[List.map_snd_zip 'o'];exact kn
  rw[List.pairwise_map] at this;exact this
 ·have:(as.zip (zV zs mo)).map (rtT f dy c ∘ g)=((as.zip (zV zs mo)).map (·.2)).map (rtK f dy c zs):=by rw[List.map_map,hg];rfl
  rw[List.map_map,this,List.map_snd_zip 'o']
 ·obtain⟨x,hx,rfl⟩:=Jw.mp h;obtain⟨z,k0,e1,tm,e2⟩:=zm x hx;exact⟨z,Ji e1,by rw[hg];dsimp only;rw[gd _ _ e1]⟩
noncomputable def cK(f:Int)(dy:Bool)(c:Int)(zs:List (V×Pl))(G:Int->List D)(k:Int):Int:=Sb (λo=>yr zs (Cal.beg f dy c k) (Cal.beg f dy c (k+1)) o (o+1) (G o)) (Cal.beg f dy c k) (Cal.beg f dy c (k+1))
def EnX(zs:List (V×Pl))(f e:Int)(K:Fg)(H:Hp)(ys:List En):Prop:=yE K H ys/\ys.length<=40/\ys.Pairwise (λa b=>a.2.2.1<=b.2.2.1)/\xj (chs ys)/\EnB f e ys/\ ∀z∈ys,yL z.2.2.2=true->TmX zs z.2.2.2
theorem EnX.same{zs:List (V×Pl)}{f e:Int}{K:Fg}{H H':Hp}{ys:List En}(h:EnX zs f e K H ys)(s:zk H H'):EnX zs f e K H' ys:=⟨h.1.same s,h.2⟩
theorem EnX.tmx{f:Int}(h:EnX zs f e K H ys)(h3: ∀t∈ts,yL t.2.2.2=true)(hz: ∀t∈ts,∃z∈ys,t.2.2.2=z.2.2.2): ∀t∈ts,TmX zs t.2.2.2:=λt ht=>by
 obtain⟨z,h1,h2⟩:=hz t ht
 have:=h3 t ht;rw[h2] at this ⊢;exact h.2.2.2.2.2 z h1 this
def zgw(K:Fg):Sp:=λvs H Q _=> ∃(pa le la:Addr) (f:Int) (dy:Bool) (c:Int) (zs:List (V×Pl)) (ys:List En) (G:Int->List D) (n:Nat) (mo:Int),vs= [.ref pa, .ref le, .int n, .int mo]/\n<=60/\yG K H pa la f dy c zs/\SqL K H le (ys.map (·.1))/\EnX zs f (Cal.beg f dy c 60) K H ys/\GL f dy c ys mo G/\ ∀r H',zk H H'->H' r=some (.lst (((List.range n).map λi:Nat=>cK f dy c zs G i).map V.int))->Q (.ref r) H'
theorem sc_0q:FnScope ["account","entries","many","moment","ordered","costs","k","span"] ["account","entries","many","moment"] (zE s_0q):=by sl_open
theorem ok_0q(T:Txt w K mg t):FnOk P w K mg base (CXE P w) 10 t.a_0q t.d_0q ["account","entries","many","moment"] (zgw K):=by
 refine T.F_0q.fn.okX sc_0q ?_ λcdv A outer s H vs Q E L hr h=> ?_
 ·kdl_open
 obtain⟨pa,le,la,f,dy,c,zs,ys,G,n,mo,rfl,n60,hz,hS,hY,hG,q⟩:=h;have nd:=sc_0q.nd;refine⟨_,(zj (psJ 4 nd (peD L.toLv (ok_0e T) hr T.F_0e (zb (pvJ 0) (zb (peD L.toLv (ok_0p T) hr T.F_0p (zb (pvJ 1) (zb (pvJ 3) ze zg) zg)) ze yI) zg))) (zj (psJ 5 nd (zY ze)) (zj (qp (by passes_own) rfl (xJ (by rfl) T.no_range (zb (pvJ 2) ze)) (zr (i:=6) nd rfl (Or.inl rfl)) (zj (psJ 7 nd (peD L.toLv (ok_0a T) hr T.F_0a (zb (pvJ 0) (zb (pvJ 6) ze zg) zg))) (zq (yU (qd PySem.F.plainAttrs_list PySem.F.slot_list_append PySem.F.type_list_append qq (pvJ 5) (zb (peD L.toLv (ok_0k T) hr T.F_0k (zb (peD L.toLv (ok_0j T) hr T.F_0j (zb (pvJ 0) (zb (pvJ 4) (zb (pvJ 7) (zb (ixJ zQ (pvJ 7) zc) ze yf) zg) zg) zg)) ze)) ze)))))) (zq (zD (pvJ 5)))))),?_⟩;obtain⟨f0,f1,hc⟩:=hz.1.cyc;open_k0;refine⟨le,ys,mo,rfl,hS,hY.1,hY.2.1,hY.2.2.1,hY.2.2.2.1,λr1 as H1 _ s1 e1 t1=> ?_⟩;have hY1:=hY.same s1;obtain⟨ts,ht,er,tz⟩:=zfL dy c hY.2.2.1 hY.2.2.2.1 hY.2.1 hY1.1 hY.2.2.2.2.1 e1 t1;have hx:=hY.tmx (λt h=>(ht.2.2.1 t h).2.2.1) tz;have hGt:=hG ts er;refine⟨pa,r1,la,f,dy,c,ts,rfl,hz.1.same s1,ht,λl2 os H2 s2 ho om=> ?_⟩;have s12:=s1.trans s2;have hox:=zma om hx;intro lc H3 hlc s3 e3;have nlc:H lc=none:=s12.none hlc
 ((try dsimp only);refine qC λR hR=> ?_;(open_k0;repeat (dsimp only[yH,qm,qr,qb,qx];open_k0)))
 refine⟨'o','o',hR _ _ ?_⟩;clear hR;rw[JF];obtain⟨Pv,hPv⟩: ∃Pv:Nat->St->Hp->Prop,Pv=λ(i:Nat) σ1 H7=>zk H2 H7/\ ∃x6 x7:Option V,H7 lc=some (.lst (((List.range i).map λi:Nat=>cK f dy c zs G i).map V.int))/\σ1= [some (.ref pa),some (.ref le),some (.int n),some (.int mo),some (.ref l2),some (.ref lc),x6,x7]:=⟨_,rfl⟩
 refine vf (n:=n) Pv (by rw[hPv];exact⟨s3,_,_,e3,rfl⟩) (λi σ1 H7 hi h=> ?_) (λσ1 H7 h=> ?_)
 ·rw[hPv] at h;obtain⟨s7,x6,x7,e7,rfl⟩:=h;have s17:=s12.trans s7;have bw:=zfE (k:=(i:Int)) f0 f1 hc 'o' 'o'
  (open_k0;repeat (dsimp only[tBM];open_k0))
  refine⟨pa,la,f,dy,c,(i:Int),by rw[JS],hz.1.same s17,λ_ _ p1 H8 s8 e8=> ?_,λz=>absurd z 'o',λz=>absurd z 'o'⟩;have s18:=s17.trans s8;have e78:=s8 _ _ e7;refine⟨.inl ⟨rfl,_,SqL.of e78⟩,ixT (SqT.of e8) (yY _ _ _) ⟨pa,l2,p1,la,f,dy,c,zs,_,_,_,os,G,rfl,hz.same s18,ho.same (s7.trans s8),e8,'o',Jz _,bw.2.1,'o',hGt _ om,hox,λr ws H9 _ s9 wA wl wW=>⟨r,zs,_,_,ws,rfl,wA,wl,λH10 s10=> ?_⟩⟩⟩;have e710:=s10 _ _ (s9 _ _ e78);refine⟨lc,_,_,rfl,rfl,e710,qi (by rw[Ja,Ja,JI];omega),?_⟩;rw[hPv,zfI wW];exact⟨(s7.trans (s8.trans (s9.trans s10))).put hlc _,_,_,by rw[zF,JQ,Jd,Jd];rfl,rfl⟩
 ·rw[hPv] at h;obtain⟨s7,x6,x7,e7,rfl⟩:=h;open_k0;exact q lc H7 (s12.trans s7) e7
theorem zqF{f:Int}(mo:Int)(f0:0<=f)(f1:f<=3500000)(hc:Cal.CycOk dy c)(hY:EnX zs f (Cal.beg f dy c 60) K H ys): ∃G,GL f dy c ys mo G:=by
 have b6:=Cal.beg_range (k:=60) f0 f1 hc 'd' 'd';obtain⟨kn,ki⟩:=zfK (mo:=mo) hY.2.2.1 hY.2.2.2.1;have inj: ∀t∈(zV ys mo).map (rtK f dy c ys),∀u∈(zV ys mo).map (rtK f dy c ys),t.2.2.1=u.2.2.1->t=u:=λt ht u hu e=>by
  obtain⟨k,hk,rfl⟩:=Jw.mp ht;obtain⟨j,hj,rfl⟩:=Jw.mp hu;obtain⟨z,k0,e1,tm⟩:=ki k hk;obtain⟨z',j0,e2,tm'⟩:=ki j hj;have kl:=(Jc.mp e1).1;have jl:=(Jc.mp e2).1;have l40:=hY.2.1;have g1:ys.getD k.toNat (.non,0,0, .back)=z:=by rw[Jo,e1];rfl
  have g2:ys.getD j.toNat (.non,0,0, .back)=z':=by rw[Jo,e2];rfl
  have t1:=hY.2.2.2.2.1 z (Ji e1) tm;have t2:=hY.2.2.2.2.1 z' (Ji e2) tm';have e':(cntF f dy c z.2.2.2*4000000+qf z.2.2.2)*64+k=(cntF f dy c z'.2.2.2*4000000+qf z'.2.2.2)*64+j:=by
   have e0:(cntF f dy c (ys.getD k.toNat (.non,0,0, .back)).2.2.2*4000000+qf (ys.getD k.toNat (.non,0,0, .back)).2.2.2)*64+k=(cntF f dy c (ys.getD j.toNat (.non,0,0, .back)).2.2.2*4000000+qf (ys.getD j.toNat (.non,0,0, .back)).2.2.2)*64+j:=e;rw[g1,g2] at e0;exact e0
  have:k=j:=by omega
  rw[this]
 have h: ∀d,∃x:List D,∀ts:List Tm,ts.map (rtT f dy c)=(zV ys mo).map (rtK f dy c ys)-> ∀ts',(∀t,t∈ts'↔t∈ts)-> ∀o0 o1 o2,xo f dy c ts' d o0 o1 o2->stT o0 o1 o2=x:=λd=>by
  have mm: ∀{ts ts':List Tm},ts.map (rtT f dy c)=(zV ys mo).map (rtK f dy c ys)->(∀t,t∈ts'↔t∈ts)-> ∀t,t∈ts'.map (rtT f dy c)↔t∈(zV ys mo).map (rtK f dy c ys):=λer m t=>by
   rw[<-er];constructor
   ·intro h;obtain⟨x,hx,rfl⟩:=Jw.mp h;exact Jw.mpr ⟨x,(m x).mp hx,rfl⟩
   ·intro h;obtain⟨x,hx,rfl⟩:=Jw.mp h;exact Jw.mpr ⟨x,(m x).mpr hx,rfl⟩
  by_cases z: ∃o0 o1 o2,Bst ((zV ys mo).map (rtK f dy c ys)) d 0 o0/\Bst ((zV ys mo).map (rtK f dy c ys)) d 1 o1/\Bst ((zV ys mo).map (rtK f dy c ys)) d 2 o2
  ·obtain⟨p0,p1,p2,h0,h1,h2⟩:=z;refine⟨stT p0 p1 p2,λts er ts' m o0 o1 o2 h=> ?_⟩;obtain rfl:=Bst.one inj (mm er m) h0 h.1;obtain rfl:=Bst.one inj (mm er m) h1 h.2.1;obtain rfl:=Bst.one inj (mm er m) h2 h.2.2;rfl
  ·exact⟨[],λts er ts' m o0 o1 o2 h=>absurd ⟨o0,o1,o2,h.1.mem λt=>(mm er m t).symm,h.2.1.mem λt=>(mm er m t).symm,h.2.2.mem λt=>(mm er m t).symm⟩ z⟩
 exact⟨λd=>(h d).choose,λts er ts' m d o0 o1 o2 hs=>(h d).choose_spec ts er ts' m o0 o1 o2 hs⟩
def fsP(g o:Int)(d:Addr):List (Str×V):= [("given", .int g),("own", .int o),("taken", .ref d)]
theorem zmd(g o x:Int)(d:Addr):yN "given" (.int x) (fsP g o d)=fsP x o d:=by unfold fsP;rw[yN,Jg rfl]
theorem zme(g o x:Int)(d:Addr):yN "own" (.int x) (fsP g o d)=fsP g x d:=by unfold fsP;rw[yN,Jf 'd',yN,Jg rfl]
theorem jx(g o:Int)(d:Addr):(fsP g o d).lookup (Str.ofString "given")=some (.int g):=rfl
theorem jy(g o:Int)(d:Addr):(fsP g o d).lookup (Str.ofString "own")=some (.int o):=rfl
theorem zmf(g o:Int)(d:Addr):(fsP g o d).lookup (Str.ofString "taken")=some (.ref d):=rfl
theorem vc(g o:Int)(d:Addr){m:Str}(h1:(m==Str.ofString "given")=false)(h2:(m==Str.ofString "own")=false)(h3:(m==Str.ofString "taken")=false):(fsP g o d).lookup m=none:=by
 unfold fsP;simp only[List.lookup,h1,h2,h3]
def Row(K:Fg)(H:Hp)(z:Int×Int×Int)(kv:Key×V):Prop:=kv.1=Sum.inl z.1/\ ∃p,kv.2= .ref p/\H p=some (.tup [.int z.2.1, .int z.2.2])
def Rows(K:Fg)(H:Hp):Tab->List (Key×V)->Prop
 | [], []=>True
 |z::r,kv::s=>Row K H z kv/\Rows K H r s
 |_,_=>False
def zT(K:Fg)(H H':Hp):Prop:= ∀p xs,H p=some (.tup xs)->H' p=some (.tup xs)
theorem zT.of_same(s:zk H H'):zT K H H':=λ_ _ h=>s _ _ h
theorem zT.trans{A B C:Hp}(a:zT K A B)(b:zT K B C):zT K A C:=λp xs h=>b p xs (a p xs h)
theorem zT.dict(e:H a=some (.dK kvs))(o:HO):zT K H (upd H a o):=λp xs h=>by
 rw[zu (λz=>by rw[z,e] at h;cases h)];exact h
theorem zT.ins{H:Hp}{a C dx:Addr}{fs:List (Str×V)}(e:H a=some (.ins C dx fs))(o:HO):zT K H (upd H a o):=λp xs h=>by
 rw[zu (λz=>by rw[z,e] at h;cases h)];exact h
theorem Rows.keep{H H':Hp}(k:zT K H H'): ∀{T:Tab} {kvs:List (Key×V)},Rows K H T kvs->Rows K H' T kvs
 | [], [],_=>trivial
 |_::_,_::_,⟨⟨h1,p,h2,h3⟩,h⟩=>⟨⟨h1,p,h2,k _ _ h3⟩,h.keep k⟩
 | [],_::_,h=>h.elim
 |_::_, [],h=>h.elim
theorem Rows.val{H:Hp}(k:Int): ∀{T:Tab} {kvs:List (Key×V)},Rows K H T kvs->(y9 kvs (Sum.inl k)=none/\zt T k=(0,0))\/ ∃p,y9 kvs (Sum.inl k)=some (.ref p)/\H p=some (.tup [.int (zt T k).1, .int (zt T k).2])
 | [], [],_=> .inl ⟨rfl,rfl⟩
 |z::r,kv::s,⟨⟨h1,p,h2,h3⟩,h⟩=>by
  by_cases e:z.1=k
  ·refine .inr ⟨p,?_,?_⟩
   ·rw[vX (by rw[h1,e]),h2]
   ·rw[zt,Jg e];exact h3
  ·rw[vY (by rw[h1];exact λq=>e (Sum.inl.inj q)),zt,Jf e];exact h.val k
 | [],_::_,h=>h.elim
 |_::_, [],h=>h.elim
theorem Rows.any{H:Hp}(k:Int): ∀{T:Tab} {kvs:List (Key×V)},Rows K H T kvs->(kvs.any λkv=>decide (kv.1=Sum.inl k))=T.any λz=>decide (z.1=k)
 | [], [],_=>rfl
 |z::r,kv::s,⟨⟨h1,p,h2,h3⟩,h⟩=>by
  rw[List.any_cons,List.any_cons,h.any k,h1];congr 1;exact decide_eq_decide.mpr ⟨λq=>Sum.inl.inj q,λq=>by rw[q]⟩
 | [],_::_,h=>h.elim
 |_::_, [],h=>h.elim
theorem Rows.map{H:Hp}{k g m:Int}{q:Addr}(hq:H q=some (.tup [.int g, .int m])): ∀{T:Tab} {kvs:List (Key×V)},Rows K H T kvs->Rows K H (T.map λz=>if z.1=k then (z.1,(g,m)) else z) (kvs.map λkv=>if kv.1=Sum.inl k then (kv.1, .ref q) else kv)
 | [], [],_=>trivial
 |z::r,kv::s,⟨⟨h1,p,h2,h3⟩,h⟩=>by
  rw[JA,JA];refine⟨?_,h.map hq⟩;by_cases e:z.1=k
  ·rw[Jg e,Jg (by rw[h1,e])];exact⟨h1,q,rfl,hq⟩
  ·rw[Jf e,Jf (by rw[h1];exact λq=>e (Sum.inl.inj q))];exact⟨h1,p,h2,h3⟩
 | [],_::_,h=>h.elim
 |_::_, [],h=>h.elim
theorem Rows.snoc{H:Hp}{z:Int×Int×Int}{kv:Key×V}(x:Row K H z kv): ∀{T:Tab} {kvs:List (Key×V)},Rows K H T kvs->Rows K H (T++ [z]) (kvs++ [kv])
 | [], [],_=>⟨x,trivial⟩
 |_::_,_::_,⟨h1,h⟩=>⟨h1,h.snoc x⟩
 | [],_::_,h=>h.elim
 |_::_, [],h=>h.elim
theorem Rows.put{k:Int}{T:Tab}(h:Rows K H T kvs)(hq:H q=some (.tup [.int g, .int m])):Rows K H (yJ T k (g,m)) (yk kvs (Sum.inl k) (.ref q)):=by
 unfold yJ yk;rw[h.any k];by_cases e:(T.any λz=>decide (z.1=k))=true
 ·rw[Jg e,Jg e];exact h.map hq
 ·rw[Jf e,Jf e];exact h.snoc ⟨rfl,q,rfl,hq⟩
theorem Rows.len{H:Hp}: ∀{T:Tab} {kvs:List (Key×V)},Rows K H T kvs->kvs.length=T.length
 | [], [],_=>rfl
 |_::_,_::_,⟨_,h⟩=>congrArg Nat.succ h.len
 | [],_::_,h=>h.elim
 |_::_, [],h=>h.elim
def zpC(t:Adr):Sp:=λvs H Q _=> ∃(p dx:Addr),vs= [.ref p]/\H p=some (.ins t.c_Z07 dx [])/\ ∀d H',H d=none->H' d=some (.dK [])->H' p=some (.ins t.c_Z07 dx (fsP 0 0 d))->(∀b o,b≠p->H b=some o->H' b=some o)->Q .non H'
theorem sc_1h:FnScope ["self"] ["self"] (zE s_1h):=by sl_open
theorem ok_1h(T:Txt w K mg t):FnOk P w K mg base (CXE P w) 1 t.a_1h t.d_1h ["self"] (zpC t):=by
 refine T.fn_1h.okX sc_1h ?_ λcdv A outer s H vs Q E L hr h=> ?_
 ·kdl_open
 obtain⟨p,dx,rfl,hp,q⟩:=h;have nd:=sc_1h.nd;refine⟨_,(zj (uy (pvJ 0) zc rfl) (zj (uy (pvJ 0) zc rfl) (zq (uy (pvJ 0) kA rfl)))),?_⟩;open_k0;refine⟨_,_,_,hp,T.cs_Z07,T.na_Pots_given,'d',_,_,_,zF,T.cs_Z07,T.na_Pots_own,'d',λd H1 hd s1 e1=> ?_⟩;have dp:d≠p:=λz=>by rw[z,zF] at hd;cases hd
 rw[zu dp,zu dp] at hd;have ep:=s1 _ _ (zF (H:=upd H p _) (a:=p));refine⟨_,_,_,ep,T.cs_Z07,T.na_Pots_taken,'d',q d _ hd (by rw[zu dp];exact e1) zF λb o hb eb=> ?_⟩;rw[zu hb];exact s1 _ _ (by rw[zu hb,zu hb];exact eb)
def zns(t:Adr):Sp:=λvs H Q _=> ∃(p dx d:Addr) (a g o:Int),vs= [.ref p, .int a]/\H p=some (.ins t.c_Z07 dx (fsP g o d))/\Q .non (upd H p (.ins t.c_Z07 dx (fsP (g+a) o d)))
theorem sc_1i:FnScope ["self","amount"] ["self","amount"] (zE s_1i):=by sl_open
theorem ok_1i(T:Txt w K mg t):FnOk P w K mg base (CXE P w) 1 t.a_1i t.d_1i ["self","amount"] (zns t):=by
 refine T.fn_1i.okX sc_1i ?_ λcdv A outer s H vs Q E L hr h=> ?_
 ·kdl_open
 obtain⟨p,dx,d,a,g,o,rfl,hp,q⟩:=h;have nd:=sc_1i.nd;refine⟨_,(zq (vK (pvJ 0) (pvJ 1) jO)),?_⟩;open_k0;refine⟨_,_,_,hp,T.cs_Z07,T.na_Pots_given,_,jx g o d,_,rfl,_,_,hp,by simp [fsP],?_⟩;rw[zmd];exact q
def zqG(t:Adr):Sp:=λvs H Q _=> ∃(p dx d:Addr) (g o:Int),vs= [.ref p]/\H p=some (.ins t.c_Z07 dx (fsP g o d))/\Q (.int o) (upd H p (.ins t.c_Z07 dx (fsP g 0 d)))
theorem sc_1l:FnScope ["self","amount"] ["self"] (zE s_1l):=by sl_open
theorem ok_1l(T:Txt w K mg t):FnOk P w K mg base (CXE P w) 1 t.a_1l t.d_1l ["self"] (zqG t):=by
 refine T.fn_1l.okX sc_1l ?_ λcdv A outer s H vs Q E L hr h=> ?_
 ·kdl_open
 obtain⟨p,dx,d,g,o,rfl,hp,q⟩:=h;have nd:=sc_1l.nd;refine⟨_,(zj (psJ 1 nd (vi (pvJ 0) rfl)) (zj (uy (pvJ 0) zc rfl) (zq (zD (pvJ 1))))),?_⟩;open_k0;refine⟨_,_,_,hp,T.cs_Z07,T.na_Pots_own,_,jy g o d,_,_,_,hp,T.cs_Z07,T.na_Pots_own,by simp [fsP],?_⟩;rw[zme];exact q
def zpD(K:Fg)(t:Adr):Sp:=λvs H Q _=> ∃(p dx d:Addr) (g o k:Int) (kvs:List (Key×V)) (Tb:Tab),vs= [.ref p, .int k]/\H p=some (.ins t.c_Z07 dx (fsP g o d))/\H d=some (.dK kvs)/\Rows K H Tb kvs/\ ∀r H',zk H H'->H' r=some (.tup [.int (zt Tb k).1, .int (zt Tb k).2])->Q (.ref r) H'
theorem sc_1m:FnScope ["self","k"] ["self","k"] (zE s_1m):=by sl_open
theorem ok_1m(T:Txt w K mg t):FnOk P w K mg base (CXE P w) 1 t.a_1m t.d_1m ["self","k"] (zpD K t):=by
 refine T.fn_1m.okX sc_1m ?_ λcdv A outer s H vs Q E L hr h=> ?_
 ·kdl_open
 obtain⟨p,dx,d,g,o,k,kvs,Tb,rfl,hp,hd,hr0,q⟩:=h;have nd:=sc_1m.nd;refine⟨_,(zq (zD (uN (yn hr) (vi (pvJ 0) rfl) (pvJ 1) (zN (zb zc (zb zc ze zC) zC)) ⟨by rfl,by rfl,by rfl,by rfl⟩))),?_⟩;open_k0;refine⟨_,_,_,hp,T.cs_Z07,T.na_Pots_taken,_,zmf g o d,d,rfl, .inl ⟨_,Rd.of hd⟩,λr0 H1 _ s1 e1=>⟨_,yo.k (k:=Sum.inl k) (s1 _ _ hd),?_⟩⟩;rcases hr0.val k with⟨e,et⟩|⟨pt,e,hs⟩
 ·rw[e];exact q r0 H1 s1 (by rw[et];exact e1)
 ·rw[e];exact q pt H1 s1 (s1 _ _ hs)
def zpE(K:Fg)(t:Adr):Sp:=λvs H Q _=> ∃(p dx d:Addr) (g o k a:Int) (kvs:List (Key×V)) (Tb:Tab),vs= [.ref p, .int k, .int a]/\H p=some (.ins t.c_Z07 dx (fsP g o d))/\H d=some (.dK kvs)/\Rows K H Tb kvs/\Tb.length<=500/\
 ∀x y r H' kvs',x=(if g<a then g else a)->y=(if o<a - x then o else a - x)->H' r=some (.tup [.int x, .int y, .int (a - x - y)])->H' p=some (.ins t.c_Z07 dx (fsP (g - x) (o - y) d))->H' d=some (.dK kvs')->Rows K H' (yJ Tb k ((zt Tb k).1+x,(zt Tb k).2+a - x)) kvs'->(∀b u,b≠p->b≠d->H b=some u->H' b=some u)->zT K H H'->Q (.ref r) H'
theorem sc_1j:FnScope ["self","k","amount","from_given","from_own","paid","given","money"] ["self","k","amount"] (zE s_1j):=by sl_open
theorem ok_1j(T:Txt w K mg t):FnOk P w K mg base (CXE P w) 2 t.a_1j t.d_1j ["self","k","amount"] (zpE K t):=by
 refine T.fn_1j.okX sc_1j ?_ λcdv A outer s H vs Q E L hr h=> ?_
 ·kdl_open
 obtain⟨p,dx,d,g,o,k,a,kvs,Tb,rfl,hp,hd,hr0,hl,q⟩:=h;have nd:=sc_1j.nd;refine⟨_,(zj (psJ 3 nd (ye (xu (by rfl)) (by rfl) T.no_min xA (zb (pvJ 2) (zb (vi (pvJ 0) rfl) ze) zg))) (zj (psJ 4 nd (ye (xu (by rfl)) (by rfl) T.no_min xA (zb (zh zX (pvJ 2) (pvJ 3)) (zb (vi (pvJ 0) rfl) ze) zM))) (zj (psJ 5 nd (zh zX (zh zX (pvJ 2) (pvJ 3)) (pvJ 4))) (zj (vK (pvJ 0) (pvJ 3) zkx) (zj (vK (pvJ 0) (pvJ 4) zkx) (zj (yB (vk (pvJ 0) T.cs_Z07 T.me_1m (ok_1m T) (hr.mono 'd') T.b_1m .nil ww (zb (pvJ 1) ze)) (zZ (n:=2) rfl (zH (zr (i:=6) nd rfl (Or.inl rfl)) (zH (zr (i:=7) nd rfl (Or.inl rfl)) yF)))) (zj (xi (yn hr) (vi (pvJ 0) rfl) (pvJ 1) (zN (zb (zh zO (pvJ 6) (pvJ 3)) (zb (zh zO (zh zO (pvJ 7) (pvJ 4)) (pvJ 5)) ze zM) zM)) rfl) (zq (zD (zN (zb (pvJ 3) (zb (pvJ 4) (zb (pvJ 5) ze zg) zg) zg))))))))))),?_⟩;open_k0;refine⟨_,_,_,hp,T.cs_Z07,T.na_Pots_given,_,jx g o d,_,rfl,_,_,_,hp,T.cs_Z07,T.na_Pots_own,_,jy g o d,_,rfl,_,_,_,hp,T.cs_Z07,T.na_Pots_given,_,jx g o d,_,rfl,_,_,hp,by simp [fsP],?_⟩;obtain⟨x,hx⟩: ∃x,x=(if g<a then g else a):=⟨_,rfl⟩
 rw[<-hx,zmd];obtain⟨y,hy⟩: ∃y,y=(if o<a - x then o else a - x):=⟨_,rfl⟩
 rw[<-hy];refine⟨_,_,_,zF,T.cs_Z07,T.na_Pots_own,_,jy (g - x) o d,_,rfl,_,_,zF,by simp [fsP],?_⟩;rw[zme];have dp:d≠p:=λz=>by rw[z,hp] at hd;cases hd
 have kp:zT K H (upd (upd H p (.ins t.c_Z07 dx (fsP (g - x) o d))) p (.ins t.c_Z07 dx (fsP (g - x) (o - y) d))):=(zT.ins hp _).trans (zT.ins zF _);have fr: ∀b u,b≠p->H b=some u->upd (upd H p (.ins t.c_Z07 dx (fsP (g - x) o d))) p (.ins t.c_Z07 dx (fsP (g - x) (o - y) d)) b=some u:=λb u hb e=>by rw[zu hb,zu hb];exact e
 have ep:upd (upd H p (.ins t.c_Z07 dx (fsP (g - x) o d))) p (.ins t.c_Z07 dx (fsP (g - x) (o - y) d)) p=some (.ins t.c_Z07 dx (fsP (g - x) (o - y) d)):=zF;generalize upd (upd H p (.ins t.c_Z07 dx (fsP (g - x) o d))) p (.ins t.c_Z07 dx (fsP (g - x) (o - y) d))=H2 at kp fr ep;refine⟨_,_,ep,vc _ _ _ 'd' 'd' 'd',p,dx,d,_,_,k,kvs,Tb,rfl,ep,fr _ _ dp hd,hr0.keep kp,λr H3 s3 h3=> ?_⟩;refine⟨r,_,rfl,SqT.of h3,rfl,?_⟩;open_k0;intro q1 H4 _ s4 e4;have ep4:=s4 _ _ (s3 _ _ ep);have ed4:=s4 _ _ (s3 _ _ (fr _ _ dp hd));have rows4:=(hr0.keep kp).keep (zT.of_same (s3.trans s4));refine⟨_,_,_,ep4,T.cs_Z07,T.na_Pots_taken,_,zmf _ _ d,d,rfl,_,qk.k (k:=Sum.inl k) ed4 (qi (by rw[hr0.len];omega)),λr5 H6 _ s6 e6=> ?_⟩;have sq5:(upd H4 d (.dK (yk kvs (Sum.inl k) (.ref q1)))) q1=some (.tup [.int ((zt Tb k).1+x), .int ((zt Tb k).2+a - x)]):=zT.dict (K:=K) ed4 _ _ _ (by rw[e4];first|done|rfl|(congr 5;omega));have rows5:=((rows4.keep (zT.dict ed4 (.dK (yk kvs (Sum.inl k) (.ref q1))))).put (k:=k) sq5).keep (zT.of_same s6);refine q x y r5 H6 _ hx hy e6 (s6 _ _ (by rw[zu dp.symm];exact ep4)) (s6 _ _ zF) rows5 (λb u b1 b2 e=>s6 _ _ (by rw[zu b2];exact s4 _ _ (s3 _ _ (fr _ _ b1 e)))) (((kp.trans (zT.of_same (s3.trans s4))).trans (zT.dict ed4 _)).trans (zT.of_same s6))
def zpF(K:Fg)(t:Adr):Sp:=λvs H Q _=> ∃(p dx d:Addr) (g o k a:Int) (kvs:List (Key×V)) (Tb:Tab),vs= [.ref p, .int k, .int a]/\H p=some (.ins t.c_Z07 dx (fsP g o d))/\H d=some (.dK kvs)/\Rows K H Tb kvs/\Tb.length<=500/\
 ∀y r H' kvs',y=(if (zt Tb k).2<a then (zt Tb k).2 else a)->H' r=some (.tup [.int (a - y), .int y])->H' p=some (.ins t.c_Z07 dx (fsP (g+(a - y)) (o+y) d))->H' d=some (.dK kvs')->Rows K H' (yJ Tb k ((zt Tb k).1 - (a - y),(zt Tb k).2 - y)) kvs'->(∀b u,b≠p->b≠d->H b=some u->H' b=some u)->zT K H H'->Q (.ref r) H'
theorem sc_1k:FnScope ["self","k","amount","given","money","to_own","to_given"] ["self","k","amount"] (zE s_1k):=by sl_open
theorem ok_1k(T:Txt w K mg t):FnOk P w K mg base (CXE P w) 2 t.a_1k t.d_1k ["self","k","amount"] (zpF K t):=by
 refine T.fn_1k.okX sc_1k ?_ λcdv A outer s H vs Q E L hr h=> ?_
 ·kdl_open
 obtain⟨p,dx,d,g,o,k,a,kvs,Tb,rfl,hp,hd,hr0,hl,q⟩:=h;have nd:=sc_1k.nd;refine⟨_,(zj (yB (vk (pvJ 0) T.cs_Z07 T.me_1m (ok_1m T) (hr.mono 'd') T.b_1m .nil ww (zb (pvJ 1) ze)) (zZ (n:=2) rfl (zH (zr (i:=3) nd rfl (Or.inl rfl)) (zH (zr (i:=4) nd rfl (Or.inl rfl)) yF)))) (zj (psJ 5 nd (ye (xu (by rfl)) (by rfl) T.no_min xA (zb (pvJ 2) (zb (pvJ 4) ze zg) zg))) (zj (psJ 6 nd (zh zX (pvJ 2) (pvJ 5))) (zj (vK (pvJ 0) (pvJ 5) jO) (zj (vK (pvJ 0) (pvJ 6) jO) (zj (xi (yn hr) (vi (pvJ 0) rfl) (pvJ 1) (zN (zb (zh zX (pvJ 3) (pvJ 6)) (zb (zh zX (pvJ 4) (pvJ 5)) ze zM) zM)) rfl) (zq (zD (zN (zb (pvJ 6) (zb (pvJ 5) ze zg) zg)))))))))),?_⟩;open_k0;refine⟨_,_,hp,vc _ _ _ 'd' 'd' 'd',p,dx,d,_,_,k,kvs,Tb,rfl,hp,hd,hr0,λr H3 s3 h3=> ?_⟩;refine⟨r,_,rfl,SqT.of h3,rfl,?_⟩;open_k0;obtain⟨y,hy⟩: ∃y,y=(if (zt Tb k).2<a then (zt Tb k).2 else a):=⟨_,rfl⟩
 rw[<-hy];have hp3:=s3 _ _ hp;refine⟨_,_,_,hp3,T.cs_Z07,T.na_Pots_own,_,jy g o d,_,rfl,_,_,hp3,by simp [fsP],?_⟩;rw[zme];refine⟨_,_,_,zF,T.cs_Z07,T.na_Pots_given,_,jx g (o+y) d,_,rfl,_,_,zF,by simp [fsP],?_⟩;rw[zmd];have dp:d≠p:=λz=>by rw[z,hp] at hd;cases hd
 have kp:zT K H (upd (upd H3 p (.ins t.c_Z07 dx (fsP g (o+y) d))) p (.ins t.c_Z07 dx (fsP (g+(a - y)) (o+y) d))):=((zT.of_same s3).trans (zT.ins hp3 _)).trans (zT.ins zF _);have fr: ∀b u,b≠p->H b=some u->upd (upd H3 p (.ins t.c_Z07 dx (fsP g (o+y) d))) p (.ins t.c_Z07 dx (fsP (g+(a - y)) (o+y) d)) b=some u:=λb u hb e=>by rw[zu hb,zu hb];exact s3 _ _ e
 have ep:upd (upd H3 p (.ins t.c_Z07 dx (fsP g (o+y) d))) p (.ins t.c_Z07 dx (fsP (g+(a - y)) (o+y) d)) p=some (.ins t.c_Z07 dx (fsP (g+(a - y)) (o+y) d)):=zF;generalize upd (upd H3 p (.ins t.c_Z07 dx (fsP g (o+y) d))) p (.ins t.c_Z07 dx (fsP (g+(a - y)) (o+y) d))=H3' at kp fr ep;have s3:zk H3' H3':=zk.refl _;intro q1 H4 _ s4 e4;have ep4:=s4 _ _ (s3 _ _ ep);have ed4:=s4 _ _ (s3 _ _ (fr _ _ dp hd));have rows4:=(hr0.keep kp).keep (zT.of_same (s3.trans s4));refine⟨_,_,_,ep4,T.cs_Z07,T.na_Pots_taken,_,zmf _ _ d,d,rfl,_,qk.k (k:=Sum.inl k) ed4 (qi (by rw[hr0.len];omega)),λr5 H6 _ s6 e6=> ?_⟩;have sq5:(upd H4 d (.dK (yk kvs (Sum.inl k) (.ref q1)))) q1=some (.tup [.int ((zt Tb k).1 - (a - y)), .int ((zt Tb k).2 - y)]):=zT.dict (K:=K) ed4 _ _ _ (by rw[e4];first|done|rfl|(congr 5;omega));have rows5:=((rows4.keep (zT.dict ed4 (.dK (yk kvs (Sum.inl k) (.ref q1))))).put (k:=k) sq5).keep (zT.of_same s6);refine q y r5 H6 _ hy e6 (s6 _ _ (by rw[zu dp.symm];exact ep4)) (s6 _ _ zF) rows5 (λb u b1 b2 e=>s6 _ _ (by rw[zu b2];exact s4 _ _ (s3 _ _ (fr _ _ b1 e)))) (((kp.trans (zT.of_same (s3.trans s4))).trans (zT.dict ed4 _)).trans (zT.of_same s6))
def Pot(K:Fg)(t:Adr)(H:Hp)(p dx d:Addr)(s:Pt):Prop:=H p=some (.ins t.c_Z07 dx (fsP s.1 s.2.1 d))/\ ∃kvs,H d=some (.dK kvs)/\Rows K H s.2.2 kvs
def Kp(H H':Hp):Prop:= ∀b u,H b=some u->(∀C dx fs,u≠ .ins C dx fs)->(∀kvs,u≠ .dK kvs)->H' b=some u
theorem Kp.of_same(s:zk H H'):Kp H H':=λb u e _ _=>s b u e
theorem Kp.trans{A B C:Hp}(x:Kp A B)(y:Kp B C):Kp A C:=λb u e h1 h2=>y b u (x b u e h1 h2) h1 h2
theorem Kp.sqT(k:Kp H H')(h:SqT K H a xs):SqT K H' a xs:=by
 rcases h with(h|⟨o,h⟩)|h
 ·exact .inl (.inl (k _ _ h nofun nofun))
 ·exact .inl (.inr ⟨o,k _ _ h nofun nofun⟩)
 ·exact .inr h
theorem Kp.sqL(k:Kp H H')(h:SqL K H a xs):SqL K H' a xs:=by
 rcases h with(h|⟨o,h⟩)|h
 ·exact .inl (.inl (k _ _ h nofun nofun))
 ·exact .inl (.inr ⟨o,k _ _ h nofun nofun⟩)
 ·exact .inr h
theorem Kp.tup{H H':Hp}{a:Addr}{xs:List V}(k:Kp H H')(h:H a=some (.tup xs)):H' a=some (.tup xs):=k _ _ h nofun nofun
theorem Kp.lst{H H':Hp}{a:Addr}{xs:List V}(k:Kp H H')(h:H a=some (.lst xs)):H' a=some (.lst xs):=k _ _ h nofun nofun
theorem Kp.ens(k:Kp H H')(h:yE K H ys):yE K H' ys:=λz hz=>(let ⟨p,e,q1,q2⟩:=h z hz;⟨p,e,k.sqT q1,k.sqT q2⟩)
def Fr(H:Hp)(r:Addr):Prop:= ∀u,H r=some u->(∃C dx fs,u= .ins C dx fs)\/ ∃kvs,u= .dK kvs
theorem Kp.fr(k:Kp H H')(h:H' r=none):Fr H r:=λu e=>by
 cases u with
 |ins C dx fs=>exact .inl ⟨_,_,_,rfl⟩
 |dK kvs=>exact .inr ⟨_,rfl⟩
 |_=>rw[k _ _ e nofun nofun] at h;cases h
theorem Kp.frF(k:Kp H H')(h:Fr H' r):Fr H r:=λu e=>by
 cases u with
 |ins C dx fs=>exact .inl ⟨_,_,_,rfl⟩
 |dK kvs=>exact .inr ⟨_,rfl⟩
 |_=>rcases h _ (k _ _ e nofun nofun) with⟨_,_,_,z⟩|⟨_,z⟩<;>cases z
theorem Kp.put{o:HO}(k:Kp H H')(h:Fr H r):Kp H (upd H' r o):=λb u e h1 h2=>by
 by_cases z:b=r
 ·subst z;rcases h _ e with⟨_,_,_,z⟩|⟨_,z⟩
  ·exact absurd z (h1 _ _ _)
  ·exact absurd z (h2 _)
 ·rw[zu z];exact k _ _ e h1 h2
theorem Pot.same{p d:Addr}(h:Pot K t H p dx d s)(sm:zk H H'):Pot K t H' p dx d s:=by
 obtain⟨h1,kvs,h2,h3⟩:=h;exact⟨sm _ _ h1,kvs,sm _ _ h2,h3.keep (zT.of_same sm)⟩
def LnV(z:Ln):List V:= [.int z.1, .str (SL z.2.1), .int z.2.2.1, .int z.2.2.2.1, .int z.2.2.2.2.1, .int z.2.2.2.2.2.1, .int z.2.2.2.2.2.2]
def z7(H:Hp)(ws:List (Addr×Ln)):Prop:= ∀w∈ws,H w.1=some (.tup (LnV w.2))
theorem z7.keep(h:z7 H ws)(k:Kp H H'):z7 H' ws:=λw hw=>k.tup (h w hw)
theorem Kp.of_but{p d:Addr}(P:Pot K t H p dx d s)(b: ∀b u,b≠p->b≠d->H b=some u->H' b=some u):Kp H H':=λx u e h1 h2=>by
 obtain⟨g1,kvs,g2,_⟩:=P;exact b x u (λz=>by rw[z,g1] at e;cases e;exact h1 _ _ _ rfl) (λz=>by rw[z,g2] at e;cases e;exact h2 _ rfl) e
theorem Pot.put{p d:Addr}(h:Pot K t H p dx d s)(g o:Int):Pot K t (upd H p (.ins t.c_Z07 dx (fsP g o d))) p dx d (g,o,s.2.2)/\Kp H (upd H p (.ins t.c_Z07 dx (fsP g o d))):=by
 obtain⟨h1,kvs,h2,h3⟩:=id h;have dp:d≠p:=λz=>by rw[z,h1] at h2;cases h2
 exact⟨⟨zF,kvs,by rw[zu dp];exact h2,h3.keep (zT.ins h1 _)⟩,Kp.of_but h λb u hb _ e=>by rw[zu hb];exact e⟩
theorem Pot.app{p d:Addr}{ys:List V}(h:Pot K t H p dx d s)(e:H l=some (.lst xs)):Pot K t (upd H l (.lst ys)) p dx d s:=by
 obtain⟨h1,kvs,h2,h3⟩:=h;refine⟨by rw[zu (λz=>by rw[z,e] at h1;cases h1)];exact h1,kvs,by rw[zu (λz=>by rw[z,e] at h2;cases h2)];exact h2,h3.keep λq zs g=> ?_⟩;rw[zu (λz=>by rw[z,e] at g;cases g)];exact g
theorem xU{l0:Addr}{z:Ln}(k:Kp H0 H1)(fr:Fr H0 l0)(e:H1 l0=some (.lst (ws.map λw=>V.ref w.1)))(la:z7 H1 ws)(er:H1 r=some (.tup (LnV z))):Kp H0 (upd H1 l0 (.lst ((ws.map λw=>V.ref w.1)++ [.ref r])))/\(upd H1 l0 (.lst ((ws.map λw=>V.ref w.1)++ [.ref r]))) l0=some (.lst ((ws++ [(r,z)]).map λw=>V.ref w.1))/\z7 (upd H1 l0 (.lst ((ws.map λw=>V.ref w.1)++ [.ref r]))) (ws++ [(r,z)]):=by
 refine⟨k.put fr,by rw[zF,Jd];rfl,λw hw=> ?_⟩;have g:H1 w.1=some (.tup (LnV w.2)):=by
  rcases Jr.mp hw with q|q
  ·exact la w q
  ·rw[Jm.mp q];exact er
 rw[zu (λq=>by rw[q,e] at g;cases g)];exact g
theorem ziP{l0 l1:Addr}{vs:List (Addr×Ln)}(k:Kp H0 H1)(fr:Fr H0 l0)(e:H1 l0=some (.lst (ws.map λw=>V.ref w.1)))(la:z7 H1 ws)(lb:z7 H1 vs):Kp H0 (upd H1 l0 (.lst ((ws.map λw=>V.ref w.1)++vs.map λw=>V.ref w.1)))/\(upd H1 l0 (.lst ((ws.map λw=>V.ref w.1)++vs.map λw=>V.ref w.1))) l0=some (.lst ((ws++vs).map λw=>V.ref w.1))/\z7 (upd H1 l0 (.lst ((ws.map λw=>V.ref w.1)++vs.map λw=>V.ref w.1))) (ws++vs):=by
 refine⟨k.put fr,by rw[zF,Jd],λw hw=> ?_⟩;have g:H1 w.1=some (.tup (LnV w.2)):=by
  rcases Jr.mp hw with q|q
  ·exact la w q
  ·exact lb w q
 rw[zu (λq=>by rw[q,e] at g;cases g)];exact g
theorem znt(ys:List En)(day:Int):inV (V.int day) ((ys.map λz=>z.2.2.1).map V.int)=ys.any λz=>decide (z.2.2.1=day):=by
 unfold inV;rw[List.map_map,List.any_map];rfl
theorem zgx: ∀zs:List Int,(zs.map V.int).all xx=true
 | []=>rfl
 |_::r=>by rw[JA,List.all_cons,zgx r];rfl
def zpG(K:Fg):Sp:=λvs H Q _=> ∃(le:Addr) (ys:List En),vs= [.ref le]/\SqL K H le (ys.map (·.1))/\yE K H ys/\ys.length<=40/\ ∀r H',H r=none->zk H H'->H' r=some (.lst ((ys.map λz=>z.2.2.1).map V.int))->Q (.ref r) H'
theorem sc_0r:FnScope ["entries"] ["entries"] (zE s_0r):=by sl_open
theorem ok_0r(T:Txt w K mg t):FnOk P w K mg base (CXE P w) 1 t.a_0r t.d_0r ["entries"] (zpG K):=by
 refine T.F_0r.fn.okX sc_0r ?_ λcdv A outer s H vs Q E L hr h=> ?_
 ·kdl_open
 obtain⟨le,ys,rfl,hS,hE,y40,q⟩:=h;have nd:=sc_0r.nd;refine⟨_,(zq (zD (xB (n:=1) (N:= ["entry"]) (js:= []) (by rfl) rfl rfl (qo (pvJ 0)) (λa=>(zr (i:=0) (show List.Nodup (["entry"]:List Str) from by decide+kernel) rfl (Or.inl rfl))) (λa=>xL) (λa=>(ixJ zQ (pvJ 0) zc))))),?_⟩
 (open_k0;repeat (dsimp only[qG,yH];open_k0))
 refine⟨⟨_,hS⟩,λl hl aa=> ?_⟩;refine qQ (λj xs _=>xs=((ys.take j).map λz=>z.2.2.1).map V.int) (xZ hS) hl (by rw[Ja];exact qj 'o') (λ_ _=>rfl) (λj y xs H1 K1 K0 hxx sm pv hl1 k1 k0=> ?_) (λxs H1 s1 pv _ w1=> ?_)
 ·rw[Jh] at hxx;obtain⟨z,hz,rfl⟩:=Jk.mp hxx;obtain⟨pe,e1,e2,_⟩:=hE z (Ji hz);open_k0;rw[e1];refine ixT (sm.sqT e2) (z5 _ _) (k1 _ _ (zk.refl _) λH2 _=> ?_);rw[pv,JH,hz,Jd,Jd];rfl
 ·rw[Ja,JC] at pv;subst pv;exact q l H1 hl s1 w1
def zpH(K:Fg)(t:Adr):Sp:=λvs H Q _=> ∃(p dx d:Addr) (s:Pt) (day k a:Int),vs= [.ref p, .int day, .int k, .int a]/\Pot K t H p dx d s/\s.2.2.length<=500/\ ∀r H',Pot K t H' p dx d (qN s k a)->Kp H H'->H' r=some (.tup (LnV (qY s day k a)))->Q (.ref r) H'
theorem sc_0u:FnScope ["pots","day","k","amount","given","own"] ["pots","day","k","amount"] (zE s_0u):=by sl_open
theorem ok_0u(T:Txt w K mg t):FnOk P w K mg base (CXE P w) 3 t.a_0u t.d_0u ["pots","day","k","amount"] (zpH K t):=by
 refine T.F_0u.fn.okX sc_0u ?_ λcdv A outer s H vs Q E L hr h=> ?_
 ·kdl_open
 obtain⟨p,dx,d,s0,day,k,a,rfl,⟨hp,kvs,hd,hr0⟩,hl,q⟩:=h;have nd:=sc_0u.nd;refine⟨_,(zj (yB (vk (pvJ 0) T.cs_Z07 T.me_1k (ok_1k T) (hr.mono 'd') T.b_1k .nil ww (zb (pvJ 2) (zb (pvJ 3) ze zg) zg)) (zZ (n:=2) rfl (zH (zr (i:=4) nd rfl (Or.inl rfl)) (zH (zr (i:=5) nd rfl (Or.inl rfl)) yF)))) (zq (zD (zN (zb (pvJ 1) (zb (zI st_15) (zb (pvJ 2) (zb (vg vw (pvJ 3)) (zb (vg vw (pvJ 4)) (zb (vg vw (pvJ 5)) (zb zc ze zC)))) zg) zC) zg))))),?_⟩;open_k0;refine⟨_,_,hp,vc _ _ _ 'd' 'd' 'd',p,dx,d,s0.1,s0.2.1,k,a,kvs,s0.2.2,rfl,hp,hd,hr0,hl,λy r H1 kvs' hy er ep ed rw1 fr kt=> ?_⟩;refine⟨r,_,rfl,SqT.of er,rfl,?_⟩;open_k0;intro r2 H2 _ s2 e2;have ey:y=gvY s0 k a:=hy;subst ey;exact q r2 H2 ⟨s2 _ _ ep,kvs',s2 _ _ ed,rw1.keep (zT.of_same s2)⟩ ((Kp.of_but ⟨hp,kvs,hd,hr0⟩ fr).trans (Kp.of_same s2)) e2
def zpI(K:Fg)(t:Adr):Sp:=λvs H Q _=> ∃(p dx d:Addr) (s:Pt) (day:Int) (w:List Nat) (k a:Int),vs= [.ref p, .int day, .str (SL w), .int k, .int a]/\Pot K t H p dx d s/\s.2.2.length<=500/\ ∀r H',Pot K t H' p dx d (yK s k a)->Kp H H'->H' r=some (.tup (LnV (yv s day w k a)))->Q (.ref r) H'
theorem sc_0v:FnScope ["pots","day","kind","k","amount","given","own","paid"] ["pots","day","kind","k","amount"] (zE s_0v):=by sl_open
theorem ok_0v(T:Txt w K mg t):FnOk P w K mg base (CXE P w) 3 t.a_0v t.d_0v ["pots","day","kind","k","amount"] (zpI K t):=by
 refine T.F_0v.fn.okX sc_0v ?_ λcdv A outer s H vs Q E L hr h=> ?_
 ·kdl_open
 obtain⟨p,dx,d,s0,day,wd,k,a,rfl,⟨hp,kvs,hd,hr0⟩,hl,q⟩:=h;have nd:=sc_0v.nd;refine⟨_,(zj (yB (vk (pvJ 0) T.cs_Z07 T.me_1j (ok_1j T) (hr.mono 'd') T.b_1j .nil ww (zb (pvJ 3) (zb (pvJ 4) ze zg) zg)) (zZ (n:=3) rfl (zH (zr (i:=5) nd rfl (Or.inl rfl)) (zH (zr (i:=6) nd rfl (Or.inl rfl)) (zH (zr (i:=7) nd rfl (Or.inl rfl)) yF))))) (zq (zD (zN (zb (pvJ 1) (zb (pvJ 2) (zb (pvJ 3) (zb (pvJ 4) (zb (pvJ 5) (zb (pvJ 6) (zb (pvJ 7) ze zg) zg) zg) zg) zg) zg) zg))))),?_⟩;open_k0;refine⟨_,_,hp,vc _ _ _ 'd' 'd' 'd',p,dx,d,s0.1,s0.2.1,k,a,kvs,s0.2.2,rfl,hp,hd,hr0,hl,λx y r H1 kvs' hx hy er ep ed rw1 fr kt=> ?_⟩;refine⟨r,_,rfl,SqT.of er,rfl,?_⟩;open_k0;intro r2 H2 _ s2 e2;have ex:x=tkX s0 a:=hx;subst ex;have ey:y=tkY s0 a:=hy;subst ey;exact q r2 H2 ⟨s2 _ _ ep,kvs',s2 _ _ ed,rw1.keep (zT.of_same s2)⟩ ((Kp.of_but ⟨hp,kvs,hd,hr0⟩ fr).trans (Kp.of_same s2)) e2
def zpJ(K:Fg)(t:Adr):Sp:=λvs H Q E=> ∃(pa le l:Addr) (f:Int) (dy:Bool) (c day:Int) (ys:List En),vs= [.ref pa, .ref le, .int day]/\qS K H pa l f dy c/\SqL K H le (ys.map (·.1))/\yE K H ys/\ys.length<=40/\(f<=day->day<Cal.beg f dy c 60-> ∀r (ws:List Int) H',zk H H'->H' r=some (.lst (ws.map V.int))->ws.Pairwise (· < ·)->(∀x,x∈ws↔(∃j:Nat,j<60/\Cal.beg f dy c j<=day/\x=Cal.beg f dy c j)\/ ∃z∈ys,z.2.2.1=x/\x<=day)->ws.length<=100->Q (.ref r) H')/\(day<f-> ∀H',zk H H'->E (.ref t.c_Z06) none H')/\(Cal.beg f dy c 60<=day-> ∀H',zk H H'->E (.ref t.c_Z0c) none H')
theorem sc_0s:FnScope ["account","entries","day","k","begin","end","begins"] ["account","entries","day"] (zE s_0s):=by sl_open
theorem ok_0s(T:Txt w K mg t):FnOk P w K mg base (CXE P w) 8 t.a_0s t.d_0s ["account","entries","day"] (zpJ K t):=by
 refine T.F_0s.fn.okX sc_0s ?_ λcdv A outer s H vs Q E L hr h=> ?_
 ·kdl_open
 obtain⟨pa,le,l,f,dy,c,day,ys,rfl,ha,hS,hE,y40,q1,q2,q3⟩:=h;have nd:=sc_0s.nd;refine⟨_,(zj (yB (peD L.toLv (ok_0b T) hr T.F_0b (zb (pvJ 0) (zb (pvJ 2) ze zg) zg)) (zZ (n:=3) rfl (zH (zr (i:=3) nd rfl (Or.inl rfl)) (zH (zr (i:=4) nd rfl (Or.inl rfl)) (zH (zr (i:=5) nd rfl (Or.inl rfl)) yF))))) (zj (vo (i:=6) nd rfl rfl (n:=1) (N:= ["number","account"]) (js:= [0]) (by rfl) rfl rfl (xJ (by rfl) T.no_range (zb (zh zO (pvJ 3) zc) ze)) (λa=>(zr (i:=0) (show List.Nodup (["number","account"]:List Str) from by decide+kernel) rfl (Or.inl rfl))) (λa=>xL) (λa=>(ixJ zQ (peD wL (ok_0a T) hr T.F_0a (zb (pvJ 1) (zb (pvJ 0) ze zg) zg)) zc))) (zq (zD (ye (zdD (w:=w) rfl (by rfl)) (by rfl) T.no_sorted uF (zb (xV (zfn (w:=w) (K:=K) rfl rfl (by rfl)) (by rfl) T.no_set zlu (zb (zh vW (pvJ 6) (xB (n:=1) (N:= ["entered","day"]) (js:= [2]) (by rfl) rfl rfl (qo (peD L.toLv (ok_0r T) hr T.F_0r (zb (pvJ 1) ze))) (λa=>(zr (i:=0) (show List.Nodup (["entered","day"]:List Str) from by decide+kernel) rfl (Or.inl rfl))) (λa=>(wN (ql zlD (pvJ 0) (pvJ 1) (yu _)))) (λa=>(pvJ 0)))) ze)) ze)))))),?_⟩;open_k0;refine⟨pa,l,f,dy,c,day,rfl,ha,λk k0 k1 a b p1 H1 s1 e1=> ?_,q2,q3⟩;obtain⟨f0,f1,hc⟩:=ha.cyc;refine⟨p1,_,rfl,SqT.of e1,rfl,?_⟩
 (open_k0;repeat (dsimp only[qG,qb,yH];open_k0))
 refine⟨'o','o',λlb hlb aa=> ?_⟩;refine qQ (λj xs _=>xs=((List.range j).map λi:Nat=>Cal.beg f dy c i).map V.int) (uE 0 _ H1) hlb (by rw[qz];exact qj 'o') (λ_ _=>rfl) (λj y xs H2 K1 K0 hxx sm pv hl kk k0'=> ?_) (λxs H2 s2 pv _ w2=> ?_)
 ·have hj:=(Jc.mp hxx).1;rw[qz] at hj;rw[vU hj] at hxx;cases hxx;open_k0;refine⟨pa,l,f,dy,c,_,rfl,ha.same (s1.trans sm),λ_ _ p3 H3 s3 e3=> ?_,λz=>absurd z 'o',λz=>absurd z 'o'⟩;refine ixT (SqT.of e3) (z5 _ _) (kk _ _ s3 λH4 _=> ?_);rw[pv,JQ,Jd,Jd,JS];rfl
 rw[qz] at pv;subst pv;have s02:=s1.trans s2;refine⟨le,ys,rfl,s02.seq hS,hE.same s02,y40,λr3 H3 hr3 s3 e3=>⟨r3,rfl,⟨_,SqL.of e3⟩,λl4 hl4 ab=> ?_⟩⟩;refine qQ (λj xs _=>xs=(((ys.take j).map λz=>z.2.2.1).filter λx=>decide (x<=day)).map V.int) (xZ (SqL.of e3)) hl4 (by rw[Ja,Ja];exact qj 'o') (λ_ _=>rfl) (λj y xs H4 K1 K0 hxx sm pv hl kk k0'=> ?_) (λxs H4 s4 pv _ w4=> ?_)
 ·rw[Jh,Jh] at hxx;obtain⟨x,hx,rfl⟩:=Jk.mp hxx;obtain⟨z,hz,rfl⟩:=Jk.mp hx;have nx:((ys.take (j+1)).map λz=>z.2.2.1).filter (λx=>decide (x<=day))=((ys.take j).map λz=>z.2.2.1).filter (λx=>decide (x<=day))++(if z.2.2.1<=day then [z.2.2.1] else []):=by
   rw[JH,hz,Jd,JT];congr 1;by_cases g:z.2.2.1<=day
   ·simp [g]
   ·simp [g]
  open_k0;by_cases g:z.2.2.1<=day
  ·rw[Jg g] at nx ⊢;exact kk _ _ (zk.refl _) λH5 _=>by rw[pv,nx,Jd];rfl
  ·rw[Jf g] at nx ⊢;exact k0' _ (zk.refl _) (by rw[pv,nx,Jt])
 rw[Ja,Ja,JC] at pv;subst pv;have wb:=(s3.trans s4) _ _ w2;refine⟨lb,l4,_,_,rfl,rfl,wb,w4,?_,λl5 H5 _ s5 e5=> ?_⟩
 ·have:=List.length_filter_le (λx=>decide (x<=day)) (ys.map λz=>z.2.2.1);rw[Ja] at this;refine qB ?_;rw[Ja,Ja,Ja,JI];omega
 rw[<-Jd] at e5;generalize hzs:((List.range (k+1).toNat).map λi:Nat=>Cal.beg f dy c i)++(ys.map λz=>z.2.2.1).filter (λx=>decide (x<=day))=zs at e5;have zl:zs.length<=100:=by
  have:=List.length_filter_le (λx=>decide (x<=day)) (ys.map λz=>z.2.2.1);rw[Ja] at this;rw[<-hzs,Jj,Ja,JI];omega
 have zm: ∀x,x∈zs↔(∃j:Nat,j<60/\Cal.beg f dy c j<=day/\x=Cal.beg f dy c j)\/ ∃z∈ys,z.2.2.1=x/\x<=day:=λx=>by
  rw[<-hzs,Jr,Jw,List.mem_filter,Jw];refine or_congr ⟨λ⟨j,hj,e⟩=> ?_,λ⟨j,hj,hb,e⟩=> ?_⟩ ⟨λ⟨⟨z,hz,e⟩,g⟩=>⟨z,hz,e,by simpa using g⟩,λ⟨z,hz,e,g⟩=>⟨⟨z,hz,e⟩,by simpa using g⟩⟩
  ·have:=List.mem_range.mp hj;exact⟨j,'o',Int.le_trans (Cal.beg_le f0 f1 hc 'o' (show (j:Int)<=k by omega) 'o') a,e.symm⟩
  ·refine⟨j,List.mem_range.mpr ?_,e.symm⟩
   have:(j:Int)<=k:=by
    rcases (by omega:k<j\/(j:Int)<=k) with q|q
    ·have:=Cal.beg_le f0 f1 hc (show 0<=k+1 by omega) (show k+1<=(j:Int) by omega) 'o';omega
    ·exact q
   omega
 refine⟨l5,rfl,zs,SqL.of e5,'o',λq6 H6 _ s6 e6=>⟨_,e6,?_,λws wp wo=>λr7 H7 _ s7 e7=> ?_⟩⟩
 ·exact JE (Se.met_len _ _) 'o'
 have wn:ws.Nodup:=(wp.nodup_iff).mpr (zfm zs);refine q1 ?_ ?_ r7 ws H7 (s02.trans (s3.trans (s4.trans (s5.trans (s6.trans s7))))) e7 ?_ (λx=> ?_) ?_
 ·have:=Cal.beg_ge (k:=k) f0 f1 hc k0 'o';omega
 ·have:=Cal.beg_le f0 f1 hc (show 0<=k+1 by omega) (show k+1<=60 by omega) 'o';omega
 ·refine(List.Pairwise.and wo wn).imp λh=> ?_;omega
 ·rw[wp.mem_iff,zhJ];exact zm x
 ·rw[wp.length_eq];exact JE (Se.met_len _ _) 'o'
def zmg(K:Fg)(t:Adr):Sp:=λvs H Q _=> ∃(p dx d le:Addr) (s:Pt) (day:Int) (ys:List En),vs= [.ref p, .ref le, .int day]/\Pot K t H p dx d s/\SqL K H le (ys.map (·.1))/\le≠p/\le≠d/\yE K H ys/\ys.length<=40/\ ∀r (ws:List (Addr×Ln)) H',Fr H r->Pot K t H' p dx d (s.1+zG day ys,s.2)->Kp H H'->H' r=some (.lst (ws.map λw=>V.ref w.1))->z7 H' ws->ws.map (·.2)=yg day 0 ys->Q (.ref r) H'
theorem sc_0t:FnScope ["pots","entries","day","lines","number","entry","entered","change"] ["pots","entries","day"] (zE s_0t):=by sl_open
theorem ok_0t(T:Txt w K mg t):FnOk P w K mg base (CXE P w) 2 t.a_0t t.d_0t ["pots","entries","day"] (zmg K t):=by
 refine T.F_0t.fn.okX sc_0t ?_ λcdv A outer s H vs Q E L hr h=> ?_
 ·kdl_open
 obtain⟨p,dx,d,le,s0,day,ys,rfl,hP,hS,n1,n2,hE,y40,q⟩:=h;have nd:=sc_0t.nd;refine⟨_,(zj (psJ 3 nd (zY ze)) (zj (qp (by passes_own) rfl (v7 (by rfl) T.no_enumerate (zb (pvJ 1) ze)) (zZ (n:=2) rfl (yt (zr (i:=4) nd rfl (Or.inl rfl)) (yt (zr (i:=5) nd rfl (Or.inl rfl)) qT))) (zj (yB (pvJ 5) (zZ (n:=2) rfl (zH (zr (i:=6) nd rfl (Or.inl rfl)) (zH (zr (i:=7) nd rfl (Or.inl rfl)) yF)))) (zq (zP (PWQ.pq (xR (qe (pvJ 6) (pvJ 2)) (xQ (qe (ixJ zQ (pvJ 7) zc) (zI st_14))))) (zj (yU (vk (pvJ 0) T.cs_Z07 T.me_1i (ok_1i T) (hr.mono 'd') T.b_1i .nil ww (zb (ixJ zQ (pvJ 7) zc) ze))) (zq (yU (qd PySem.F.plainAttrs_list PySem.F.slot_list_append PySem.F.type_list_append qq (pvJ 3) (zb (zN (zb (pvJ 2) (zb (zI st_14) (zb (pvJ 4) (zb (ixJ zQ (pvJ 7) zc) (zb zc (zb zc (zb zc ze zC) zC) zC) yf) zg) zC) zg)) ze))))) zR)))) (zq (zD (pvJ 3))))),?_⟩;open_k0;intro l0 H1 hl0 s1 e1
 ((try dsimp only);refine qC λR hR=> ?_;(open_k0;repeat (dsimp only[yH,qm,qr,qb,qx];open_k0)))
 refine⟨⟨_,s1.seq hS⟩,hR _ _ ?_⟩;clear hR;have k1:=Kp.of_same s1;have fr0:Fr H l0:=λu e=>by rw[e] at hl0;cases hl0
 obtain⟨Pv,hPv⟩: ∃Pv:Nat->St->Hp->Prop,Pv=λi σ1 H2=> ∃(ws:List (Addr×Ln)) (x4 x5 x6 x7:Option V),Pot K t H2 p dx d (s0.1+zG day (ys.take i),s0.2)/\Kp H H2/\H2 l0=some (.lst (ws.map λw=>V.ref w.1))/\z7 H2 ws/\ws.map (·.2)=yg day 0 (ys.take i)/\σ1= [some (.ref p),some (.ref le),some (.int day),some (.ref l0),x4,x5,x6,x7]:=⟨_,rfl⟩
 refine uO (xs:=ys.map (·.1)) Pv (by rw[hPv];exact⟨[],_,_,_,_,by rw[List.take_zero];show Pot K t H1 p dx d (s0.1+0,s0.2);rw[JJ];exact hP.same s1,k1,e1,(λw h=>nomatch h),rfl,rfl⟩) (λi σ1 H2 _ h=>by rw[hPv] at h;obtain⟨_,_,_,_,_,_,k,_⟩:=h;exact k.sqL hS) (λi σ1 H2 H3 h s=>by rw[hPv] at h ⊢;obtain⟨ws,x4,x5,x6,x7,hp,k,e,la,lm,r⟩:=h;exact⟨ws,x4,x5,x6,x7,hp.same s,k.trans (Kp.of_same s),s _ _ e,la.keep (Kp.of_same s),lm,r⟩) (λi x σ1 H2 hx h=> ?_) (λσ1 H2 h=> ?_)
 ·rw[hPv] at h;obtain⟨ws,x4,x5,x6,x7,hp2,k2,e2,la,lm,rfl⟩:=h;rw[Jh] at hx;obtain⟨z,hz,rfl⟩:=Jk.mp hx;obtain⟨pe,ee,q1,q2⟩:=(k2.ens hE) z (Ji hz);have hi:=(Jc.mp hz).1;rw[ee];open_k0;refine⟨pe,_,rfl,q1,rfl,?_⟩;open_k0;obtain⟨gF,gA⟩:=zft (day:=day) hz;have stay:yg day 0 (ys.take (i+1))=yg day 0 (ys.take i)->zG day (ys.take (i+1))=zG day (ys.take i)-> ∀H3,zk H2 H3->Pv (i+1) [some (V.ref p),some (V.ref le),some (V.int day),some (V.ref l0),some (V.int i),some (V.ref pe),some (V.int z.2.2.1),some (V.ref z.2.1)] H3:=λg1 g2 H3 s3=>by
   rw[hPv];exact⟨ws,_,_,_,_,by rw[g2];exact hp2.same s3,k2.trans (Kp.of_same s3),s3 _ _ e2,la.keep (Kp.of_same s3),by rw[g1];exact lm,rfl⟩
  by_cases hd:z.2.2.1=day
  ·rw[Jg hd];generalize hc:z.2.2.2=ch at q2 gF gA;cases ch with
   |plan a b=>exact ixT (show SqT K H2 z.2.1 (V.str (SL _)::_) from q2) (z5 _ _) ⟨rfl,zW (yD 'd') (stay (by rw[gF];exact Jt _) (by rw[gA];exact JJ _) H2 (zk.refl _))⟩
   |seats a b=>exact ixT (show SqT K H2 z.2.1 (V.str (SL _)::_) from q2) (z5 _ _) ⟨rfl,zW (yD 'd') (stay (by rw[gF];exact Jt _) (by rw[gA];exact JJ _) H2 (zk.refl _))⟩
   |word a b=>exact ixT (show SqT K H2 z.2.1 (V.str (SL _)::_) from q2) (z5 _ _) ⟨rfl,zW (yD (λz=>absurd ((jw a).1) (by rw[z];decide))) (stay (by rw[gF];exact Jt _) (by rw[gA];exact JJ _) H2 (zk.refl _))⟩
   |undo a=>exact ixT (show SqT K H2 z.2.1 (V.str (SL _)::_) from q2) (z5 _ _) ⟨rfl,zW (yD 'd') (stay (by rw[gF];exact Jt _) (by rw[gA];exact JJ _) H2 (zk.refl _))⟩
   |back=>exact ixT (show SqT K H2 z.2.1 (V.str (SL _)::_) from q2) (z5 _ _) ⟨rfl,zW (yD 'd') (stay (by rw[gF];exact Jt _) (by rw[gA];exact JJ _) H2 (zk.refl _))⟩
   |grant a=>
    have q2':SqT K H2 z.2.1 [.str (SL [103,114,97,110,116]), .int a]:=q2;refine ixT q2' (z5 _ _) ⟨rfl,qW rfl ⟨_,_,hp2.1,vc _ _ _ 'd' 'd' 'd',ixT q2' (yY _ _ _) ⟨p,dx,d,a,_,_,rfl,hp2.1,?_⟩⟩⟩;obtain⟨P3,k3⟩:=hp2.put (s0.1+zG day (ys.take i)+a) s0.2.1
    (open_k0;repeat (dsimp only[tBM];open_k0))
    generalize upd H2 p _=H3 at P3 k3 ⊢;have e3:=k3.lst e2;refine⟨.inl ⟨rfl,_,SqL.of e3⟩,ixT (k3.sqT q2') (yY _ _ _) λr4 H4 _ s4 e4=> ?_⟩;have wl:ws.length<=40:=by
     have:=congrArg List.length lm;rw[Ja] at this;rw[this];exact JE (wX day _ 0) (by rw[JB];omega)
    refine⟨l0,_,_,rfl,rfl,s4 _ _ e3,by rw[Ja];exact qi 'o',?_⟩;obtain⟨a1,a2,a3⟩:=xU (z:=(day,xE,(i:Int),a,0,0,0)) ((k2.trans k3).trans (Kp.of_same s4)) fr0 (s4 _ _ e3) (la.keep (k3.trans (Kp.of_same s4))) e4;rw[hPv];refine⟨_,_,_,_,_,?_,a1,a2,a3,by rw[Jd,lm,gF];simp only[hd,if_true];rfl,rfl⟩;have P5:=(P3.same s4).app (ys:=(ws.map λw=>V.ref w.1)++ [.ref r4]) (s4 _ _ e3);rw[gA];simp only[hd,if_true];rw[<-Int.add_assoc];exact P5
  ·rw[Jf hd];refine stay ?_ ?_ H2 (zk.refl _)
   ·rw[gF];cases z.2.2.2<;>simp [hd]
   ·rw[gA];cases z.2.2.2<;>simp [hd]
 ·rw[hPv] at h;obtain⟨ws,x4,x5,x6,x7,hp2,k2,e2,la,lm,rfl⟩:=h;open_k0;rw[Ja,JC] at hp2 lm;exact q l0 ws H2 fr0 hp2 k2 e2 la lm
def zjB(K:Fg)(t:Adr):Sp:=λvs H Q _=> ∃(p dx d lc:Addr) (s:Pt) (day:Int) (cs:List Int),vs= [.ref p, .int day, .ref lc]/\Pot K t H p dx d s/\SqL K H lc (cs.map V.int)/\cs.length<=60/\s.2.2.length<=100/\ ∀r (ws:List (Addr×Ln)) H',Fr H r->Pot K t H' p dx d (yi day cs s).2->Kp H H'->H' r=some (.lst (ws.map λw=>V.ref w.1))->z7 H' ws->ws.map (·.2)=(yi day cs s).1->Q (.ref r) H'
theorem sc_0w:FnScope ["pots","day","costs","more","lines","k","amount"] ["pots","day","costs"] (zE s_0w):=by sl_open
theorem ok_0w(T:Txt w K mg t):FnOk P w K mg base (CXE P w) 4 t.a_0w t.d_0w ["pots","day","costs"] (zjB K t):=by
 refine T.F_0w.fn.okX sc_0w ?_ λcdv A outer s H vs Q E L hr h=> ?_
 ·kdl_open
 obtain⟨p,dx,d,lc,s0,day,cs,rfl,hP,hS,c60,t100,q⟩:=h;have nd:=sc_0w.nd;refine⟨_,(zj (vo (i:=3) nd rfl rfl (n:=2) (N:= ["k","cost","pots"]) (js:= [0]) (by rfl) rfl rfl (v7 (by rfl) T.no_enumerate (zb (pvJ 2) ze)) (λa=>(zZ (n:=2) rfl (yt (zr (i:=0) (show List.Nodup (["k","cost","pots"]:List Str) from by decide+kernel) rfl (Or.inl rfl)) (yt (zr (i:=1) (show List.Nodup (["k","cost","pots"]:List Str) from by decide+kernel) rfl (Or.inl rfl)) qT)))) (λa=>xL) (λa=>(zh zX (pvJ 1) (ye (zgg (by rfl)) (by rfl) T.no_sum j3 (zb (vk (pvJ 2) T.cs_Z07 T.me_1m (ok_1m T) (hr.mono 'd') T.b_1m .nil ww (zb (pvJ 0) ze)) ze))))) (zj (psJ 4 nd (zY ze)) (zj (qp (by passes_own) rfl (v7 (by rfl) T.no_enumerate (zb (pvJ 3) ze)) (zZ (n:=2) rfl (yt (zr (i:=5) nd rfl (Or.inl rfl)) (yt (zr (i:=6) nd rfl (Or.inl rfl)) qT))) (zq (zP (yp qy (pvJ 6) zc) (zq (yU (qd PySem.F.plainAttrs_list PySem.F.slot_list_append PySem.F.type_list_append qq (pvJ 4) (zb (peD L.toLv (ok_0u T) hr T.F_0u (zb (pvJ 0) (zb (pvJ 1) (zb (pvJ 5) (zb (vg vw (pvJ 6)) ze) zg) zg) zg)) ze)))) zR))) (zj (qp (by passes_own) rfl (v7 (by rfl) T.no_enumerate (zb (pvJ 3) ze)) (zZ (n:=2) rfl (yt (zr (i:=5) nd rfl (Or.inl rfl)) (yt (zr (i:=6) nd rfl (Or.inl rfl)) qT))) (zq (zP (yp q5 (pvJ 6) zc) (zq (yU (qd PySem.F.plainAttrs_list PySem.F.slot_list_append PySem.F.type_list_append qq (pvJ 4) (zb (peD L.toLv (ok_0v T) hr T.F_0v (zb (pvJ 0) (zb (pvJ 1) (zb (zI st_15) (zb (pvJ 5) (zb (pvJ 6) ze zg) zg) zC) zg) zg)) ze)))) zR))) (zq (zD (pvJ 4))))))),?_⟩
 (open_k0;repeat (dsimp only[qG,qr];open_k0))
 refine⟨⟨_,hS⟩,λlm hlm aa=> ?_⟩;refine zj5 (λi xs=>xs=((zU s0 cs).take i).map λz=>V.int z.2) hS hlm (by rw[Ja];exact qj 'o') (λv w=>by open_k0) rfl (λi x xs H1 K1 hx sm pv kk=> ?_) (λxs H1 s1 pv w1=> ?_)
 ·rw[Jh] at hx;obtain⟨cv,hcv,rfl⟩:=Jk.mp hx;open_k0;obtain⟨g1,kvs,g2,g3⟩:=hP.same sm;refine⟨_,_,g1,vc _ _ _ 'd' 'd' 'd',p,dx,d,_,_,_,kvs,_,rfl,g1,g2,g3,λr H2 s2 e2=>⟨r,rfl, [_,_],SqT.of e2,kk _ _ s2 ?_⟩⟩;rw[pv,JH,jp hcv,Jd];show _++ [_]=_++ [_];congr 3;show cv - ((zt s0.2.2 i).1+((zt s0.2.2 i).2+0))=_;rw[JJ]
 rw[Ja,<-wC s0 cs,JC] at pv;subst pv;have dl:=wC s0 cs;have df: ∀(i:Nat) (z:Int×Int),(zU s0 cs)[i]? =some z->z.1=i:=λi z=>zni;have eF:yi day cs s0=((zJ day (zU s0 cs) s0).1++(zL day (zU s0 cs) (zJ day (zU s0 cs) s0).2).1,(zL day (zU s0 cs) (zJ day (zU s0 cs) s0).2).2):=rfl;rw[eF] at q;clear eF;generalize zU s0 cs=Ds at w1 dl df q;intro l0 H2 hl0 s2 e2;have fr1:Fr H1 l0:=λu e=>by rw[e] at hl0;cases hl0
 have wm:=s2 _ _ w1;have k1:=Kp.of_same s1
 ((try dsimp only);refine qC λR hR=> ?_;(open_k0;repeat (dsimp only[yH,qm,qr,qb,qx];open_k0)))
 refine⟨⟨_,SqL.of wm⟩,hR _ _ ?_⟩;clear hR;obtain⟨Pv,hPv⟩: ∃Pv:Nat->St->Hp->Prop,Pv=λi σ1 H3=> ∃(ws:List (Addr×Ln)) (x5 x6:Option V),Pot K t H3 p dx d (zJ day (Ds.take i) s0).2/\Kp H1 H3/\H3 l0=some (.lst (ws.map λw=>V.ref w.1))/\z7 H3 ws/\ws.map (·.2)=(zJ day (Ds.take i) s0).1/\σ1= [some (.ref p),some (.int day),some (.ref lc),some (.ref lm),some (.ref l0),x5,x6]:=⟨_,rfl⟩
 refine uO (xs:=Ds.map λz=>V.int z.2) Pv (by rw[hPv];exact⟨[],_,_,hP.same (s1.trans s2),Kp.of_same s2,e2,(λw h=>nomatch h),rfl,rfl⟩) (λi σ1 H2 _ h=>by rw[hPv] at h;obtain⟨_,_,_,_,k,_⟩:=h;exact k.sqL (SqL.of w1)) (λi σ1 H2 H3 h s=>by rw[hPv] at h ⊢;obtain⟨ws,x5,x6,hp,k,e,la,lm,r⟩:=h;exact⟨ws,x5,x6,hp.same s,k.trans (Kp.of_same s),s _ _ e,la.keep (Kp.of_same s),lm,r⟩) (λi x σ1 H3 hx h=> ?_) (λσ1 H3 h=> ?_)
 ·rw[hPv] at h;obtain⟨ws,x5,x6,hp3,k3,e3,la,lms,rfl⟩:=h;rw[Jh] at hx;obtain⟨z,hz,rfl⟩:=Jk.mp hx;have nx:=zgn (day:=day) (s:=s0) hz;have hi:=(Jc.mp hz).1;have ln:=wD day (Ds.take i) s0;rw[JB] at ln;have wl:=congrArg List.length lms;rw[Ja] at wl;rw[df i z hz] at nx
  (open_k0;repeat (dsimp only[tBM];open_k0))
  by_cases g:z.2<0
  ·rw[Jg g] at nx ⊢;refine⟨.inl ⟨rfl,_,SqL.of e3⟩,p,dx,d,_,day,_,_,rfl,hp3,'o',λr4 H4 hp4 k4 e4=> ?_⟩;refine⟨l0,_,_,rfl,rfl,k4.lst e3,by rw[Ja];exact qi 'o',?_⟩;obtain⟨a1,a2,a3⟩:=xU (k3.trans k4) fr1 (k4.lst e3) (la.keep k4) e4;rw[hPv];exact⟨_,_,_,by rw[nx];exact hp4.app (k4.lst e3),a1,a2,a3,by rw[Jd,lms,nx];rfl,rfl⟩
  ·rw[Jf g] at nx ⊢;rw[hPv];exact⟨ws,_,_,by rw[nx];exact hp3,k3,e3,la,by rw[nx];exact lms,rfl⟩
 rw[hPv] at h;obtain⟨ws,x5,x6,hp3,k3,e3,la,lms,rfl⟩:=h;clear hPv;rw[Ja,JC] at hp3 lms;have ln3:=wD day Ds s0;generalize zJ day Ds s0=LS at hp3 lms ln3 q;obtain⟨L1,S1⟩:=LS;open_k0
 ((try dsimp only);refine qC λR hR=> ?_;(open_k0;repeat (dsimp only[yH,qm,qr,qb,qx];open_k0)))
 refine⟨⟨_,k3.sqL (SqL.of w1)⟩,hR _ _ ?_⟩;clear hR;obtain⟨Pw,hPw⟩: ∃Pw:Nat->St->Hp->Prop,Pw=λi σ1 H4=> ∃(ws:List (Addr×Ln)) (x5 x6:Option V),Pot K t H4 p dx d (zL day (Ds.take i) S1).2/\Kp H1 H4/\H4 l0=some (.lst (ws.map λw=>V.ref w.1))/\z7 H4 ws/\ws.map (·.2)=L1++(zL day (Ds.take i) S1).1/\σ1= [some (.ref p),some (.int day),some (.ref lc),some (.ref lm),some (.ref l0),x5,x6]:=⟨_,rfl⟩
 refine uO (xs:=Ds.map λz=>V.int z.2) Pw (by rw[hPw];exact⟨ws,_,_,hp3,k3,e3,la,by rw[List.take_zero,zL,Jt];exact lms,rfl⟩) (λi σ1 H2 _ h=>by rw[hPw] at h;obtain⟨_,_,_,_,k,_⟩:=h;exact k.sqL (SqL.of w1)) (λi σ1 H2 H3 h s=>by rw[hPw] at h ⊢;obtain⟨ws,x5,x6,hp,k,e,la,lm,r⟩:=h;exact⟨ws,x5,x6,hp.same s,k.trans (Kp.of_same s),s _ _ e,la.keep (Kp.of_same s),lm,r⟩) (λi x σ1 H4 hx h=> ?_) (λσ1 H4 h=> ?_)
 ·rw[hPw] at h;obtain⟨ws,x5,x6,hp4,k4,e4,la,lms,rfl⟩:=h;rw[Jh] at hx;obtain⟨z,hz,rfl⟩:=Jk.mp hx;have nx:=zgo (day:=day) (s:=S1) hz;have hi:=(Jc.mp hz).1;have ln:=wV day (Ds.take i) S1;rw[JB] at ln;have wl:=congrArg List.length lms;rw[Ja,Jj] at wl;rw[df i z hz] at nx;have l1:L1.length<=Ds.length:=ln3.2;have l2:S1.2.2.length<=s0.2.2.length+Ds.length:=ln3.1
  (open_k0;repeat (dsimp only[tBM];open_k0))
  by_cases g:0<z.2
  ·rw[Jg g] at nx ⊢;refine⟨.inl ⟨rfl,_,SqL.of e4⟩,p,dx,d,_,day,qM,_,_,rfl,hp4,'o',λr5 H5 hp5 k5 e5=> ?_⟩;refine⟨l0,_,_,rfl,rfl,k5.lst e4,by rw[Ja];exact qi 'o',?_⟩;obtain⟨a1,a2,a3⟩:=xU (k4.trans k5) fr1 (k5.lst e4) (la.keep k5) e5;rw[hPw];exact⟨_,_,_,by rw[nx];exact hp5.app (k5.lst e4),a1,a2,a3,by rw[Jd,lms,nx,JM];rfl,rfl⟩
  ·rw[Jf g] at nx ⊢;rw[hPw];exact⟨ws,_,_,by rw[nx];exact hp4,k4,e4,la,by rw[nx];exact lms,rfl⟩
 rw[hPw] at h;obtain⟨ws,x5,x6,hp4,k4,e4,la,lms,rfl⟩:=h;open_k0;rw[Ja,JC] at hp4 lms;exact q l0 ws H4 (k1.frF fr1) hp4 (k1.trans k4) e4 la lms
theorem zhX{z:En}:eqb 2 (enD z) (.tup [.int day, .tup [.str [98,97,99,107]]])=(decide (z.2.2.1=day) && (match z.2.2.2 with| .back=>true|_=>false)):=by
 obtain⟨v,a,e,ch⟩:=z;have e1: ∀x y:Int,(x==y)=decide (x=y):=λx y=>rfl;cases ch with
 |word wd d=>simp [enD,chD,eqb,qP,e1]
 |back=>simp [enD,chD,eqb,qP,e1]
 |_=>simp [enD,chD,eqb,qP,e1]
theorem zeu{H:Hp}: ∀{ys:List En},yE K H ys-> ∃as:List Addr,ys.map (·.1)=as.map V.ref
 | [],_=>⟨[],rfl⟩
 |z::r,h=>by
  obtain⟨as,e⟩:=zeu (ys:=r) λx hx=>h x (Jl _ hx);obtain⟨p,e1,_⟩:=h z Jq;exact⟨p::as,by rw[JA,JA,e,e1]⟩
theorem zhY(day:Int)(z:En):yC 2 (enD z) (.tup [.int day, .tup [.str [98,97,99,107]]]):=by
 unfold enD;simp only[yC];intro j x y hx hy;match j,hx,hy with
 |0,hx,hy=>cases hx;cases hy;simp [yC,xM]
 |1,hx,hy=>
  cases hx;cases hy;simp only[yC];intro i x y hx hy;match i,hx,hy with
  |0,hx,hy=>
   cases hy;generalize z.2.2.2=ch at hx;cases ch<;>(cases hx;simp [yC,xM])
  |i+1,_,hy=>simp at hy
 |j+2,hx,_=>simp at hx
def zpK(K:Fg)(t:Adr):Sp:=λvs H Q _=> ∃(p dx d le:Addr) (s:Pt) (day:Int) (ys:List En),vs= [.ref p, .ref le, .int day]/\Pot K t H p dx d s/\SqL K H le (ys.map (·.1))/\yE K H ys/\ys.length<=40/\ ∀r (ws:List (Addr×Ln)) H',Fr H r->Pot K t H' p dx d (yx day ys s).2->Kp H H'->H' r=some (.lst (ws.map λw=>V.ref w.1))->z7 H' ws->ws.map (·.2)=(yx day ys s).1->Q (.ref r) H'
theorem sc_0x:FnScope ["pots","entries","day","amount"] ["pots","entries","day"] (zE s_0x):=by sl_open
theorem ok_0x(T:Txt w K mg t):FnOk P w K mg base (CXE P w) 2 t.a_0x t.d_0x ["pots","entries","day"] (zpK K t):=by
 refine T.F_0x.fn.okX sc_0x ?_ λcdv A outer s H vs Q E L hr h=> ?_
 ·kdl_open
 obtain⟨p,dx,d,le,s0,day,ys,rfl,hP,hS,hE,y40,q⟩:=h;have nd:=sc_0x.nd;refine⟨_,(zj (zP (qL (ql (zj4 hr) (zN (zb (pvJ 2) (zb (zN (zb (zI st_16) ze)) ze kg) zg)) (pvJ 1) rfl)) (zq (zD (zY ze))) zR) (zj (psJ 3 nd (zkA (pvJ 0) T.cs_Z07 T.me_1l (ok_1l T) (hr.mono 'd') T.b_1l .nil ww)) (zj (zP (qe (pvJ 3) zc) (zq (zD (zY ze))) zR) (zq (zD (zY (zb (zN (zb (pvJ 2) (zb (zI st_16) (zb (vg vw zc) (zb (pvJ 3) (zb zc (zb zc (zb zc ze zC) zC) zC) zg)) zC) zg)) ze))))))),?_⟩;open_k0;intro b1 H1 _ s1 e1;intro b2 H2 _ s2 e2;have s02:=s1.trans s2;obtain⟨as,ea⟩:=zeu hE;have hE2:=(hE.same s02).all2;rw[ea] at hE2;have hS2:=s02.seq hS;rw[ea] at hS2;refine⟨le,as,2,ys.map enD, .tup [.int day, .tup [.str [98,97,99,107]]],rfl,hS2,hE2,xh (SqT.of e2) ⟨by simp only[Dp],xh (s2.sqT (SqT.of e1)) ⟨qH,trivial⟩,trivial⟩,'d',λe he=> ?_,?_⟩
 ·obtain⟨z,_,rfl⟩:=Jw.mp he;exact zhY day z
 have eb:((ys.map enD).any λe=>eqb 2 e (.tup [.int day, .tup [.str [98,97,99,107]]]))=xS day ys:=by
  unfold xS;rw[List.any_map];congr 1;funext z;exact zhX
 rw[eb];simp only[if_true];refine⟨_,rfl,?_⟩;have P2:=hP.same s02;cases hb:xS day ys with
 |false=>
  simp only[Bool.not_false,if_true];intro r H3 hr3 s3 e3;have bf:yx day ys s0=([],s0):=by unfold yx;rw[hb];rfl
  exact q r [] H3 ((Kp.of_same s02).fr hr3) (by rw[bf];exact P2.same s3) (Kp.of_same (s02.trans s3)) e3 (λw h=>nomatch h) (by rw[bf];rfl)
 |true=>
  simp only[Bool.not_true,Js,if_false];refine⟨_,_,P2.1,vc _ _ _ 'd' 'd' 'd',p,dx,d,s0.1,s0.2.1,rfl,P2.1,rfl,?_⟩;obtain⟨P3,b3⟩:=P2.put s0.1 0;have k03:=(Kp.of_same s02).trans b3;generalize upd H2 p (.ins t.c_Z07 dx (fsP s0.1 0 d))=H3 at P3 b3 k03 ⊢;by_cases z:s0.2.1=0
  ·rw[Jg (by rw[z])];intro r H4 hr4 s4 e4;have bf:yx day ys s0=([],(s0.1,0,s0.2.2)):=by unfold yx;rw[hb,Jg rfl,Jg z]
   exact q r [] H4 (k03.fr hr4) (by rw[bf];exact P3.same s4) (k03.trans (Kp.of_same s4)) e4 (λw h=>nomatch h) (by rw[bf];rfl)
  ·rw[Jf (λh=>z (V.int.inj h))];intro r4 H4 hr4 s4 e4;intro r5 H5 hr5 s5 e5;have s45:=s4.trans s5;have bf:yx day ys s0=([(day,xm, -1,s0.2.1,0,0,0)],(s0.1,0,s0.2.2)):=by unfold yx;rw[hb,Jg rfl,Jf z]
   exact q r5 [(r4,(day,xm, -1,s0.2.1,0,0,0))] H5 ((k03.trans (Kp.of_same s4)).fr hr5) (by rw[bf];exact P3.same s45) (k03.trans (Kp.of_same s45)) e5 (λw h=>by rw[Jm.mp h];exact s5 _ _ e4) (by rw[bf];rfl)
theorem yG.kp{f:Int}(h:yG K H pa l f dy c zs)(s:Kp H H'):yG K H' pa l f dy c zs:=by
 obtain⟨⟨pc,h1,h2,h3,h4⟩,h5,h6,h7⟩:=h;exact⟨⟨pc,h1,h2,⟨s.sqT h3.1,h3.2⟩,s.tup h4⟩,s.lst h5,λz hz=>(let ⟨q,e,g⟩:=h6 z hz;⟨q,e,s.sqT g⟩),h7⟩
theorem EnX.kp{f:Int}(h:EnX zs f e K H ys)(s:Kp H H'):EnX zs f e K H' ys:=⟨s.ens h.1,h.2⟩
noncomputable def cstF(f:Int)(dy:Bool)(c:Int)(zs:List (V×Pl))(Gm:Int->Int->List D)(m k:Int):Int:=cK f dy c zs (Gm m) k
def zmh(K:Fg)(t:Adr):Sp:=λvs H Q _=> ∃(pa le la p dx d:Addr) (f:Int) (dy:Bool) (c:Int) (zs:List (V×Pl)) (ys:List En) (Gm:Int->Int->List D) (s:Pt) (day:Int) (k:Nat) (isb:Bool),vs= [.ref pa, .ref le, .ref p, .int day]/\yG K H pa la f dy c zs/\SqL K H le (ys.map (·.1))/\EnX zs f (Cal.beg f dy c 60) K H ys/\(∀m,GL f dy c ys m (Gm m))/\Pot K t H p dx d s/\le≠p/\le≠d/\SpAt f dy c day k isb/\s.2.2.length<=100/\ ∀r (ws:List (Addr×Ln)) H',Fr H r->Pot K t H' p dx d (yq (cstF f dy c zs Gm) ys day k isb s).2->Kp H H'->H' r=some (.lst (ws.map λw=>V.ref w.1))->z7 H' ws->ws.map (·.2)=(yq (cstF f dy c zs Gm) ys day k isb s).1->Q (.ref r) H'
theorem sc_0y:FnScope ["account","entries","pots","day","k","begin","end","is_begin","lines"] ["account","entries","pots","day"] (zE s_0y):=by sl_open
theorem ok_0y(T:Txt w K mg t):FnOk P w K mg base (CXE P w) 12 t.a_0y t.d_0y ["account","entries","pots","day"] (zmh K t):=by
 refine T.F_0y.fn.okX sc_0y ?_ λcdv A outer s H vs Q E L hr h=> ?_
 ·kdl_open
 obtain⟨pa,le,la,p,dx,d,f,dy,c,zs,ys,Gm,s0,day,k,isb,rfl,hz,hS,hY,hG,hP,n1,n2,sp,t100,q⟩:=h;have nd:=sc_0y.nd;refine⟨_,(zj (yB (peD L.toLv (ok_0b T) hr T.F_0b (zb (pvJ 0) (zb (pvJ 3) ze zg) zg)) (zZ (n:=3) rfl (zH (zr (i:=4) nd rfl (Or.inl rfl)) (zH (zr (i:=5) nd rfl (Or.inl rfl)) (zH (zr (i:=6) nd rfl (Or.inl rfl)) yF))))) (zj (psJ 7 nd (xt xr (pvJ 5) (pvJ 3) (yu _))) (zj (psJ 8 nd (peD L.toLv (ok_0t T) hr T.F_0t (zb (pvJ 2) (zb (pvJ 1) (zb (pvJ 3) ze zg) zg) zg))) (zj (wJ (zP (qL (ql zfZ (pvJ 3) (peD L.toLv (ok_0r T) hr T.F_0r (zb (pvJ 1) ze)) rfl)) (zq (yU (qd PySem.F.plainAttrs_list PySem.F.slot_list_extend PySem.F.type_list_extend jU (pvJ 8) (zb (peD L.toLv (ok_0w T) hr T.F_0w (zb (pvJ 2) (zb (pvJ 3) (zb (peD L.toLv (ok_0q T) hr T.F_0q (zb (pvJ 0) (zb (pvJ 1) (zb (zj7 (qL (zgW (pvJ 7))) (pvJ 4) (zh zO (pvJ 4) zc)) (zb (pvJ 3) ze zg)) zg) zg)) ze yI) zg) zg)) ze)))) zR)) (zj (wJ (zP (qL (zgW (pvJ 7))) (zq (yU (qd PySem.F.plainAttrs_list PySem.F.slot_list_append PySem.F.type_list_append qq (pvJ 8) (zb (peD L.toLv (ok_0v T) hr T.F_0v (zb (pvJ 2) (zb (pvJ 3) (zb (zI st_17) (zb (pvJ 4) (zb (peD L.toLv (ok_0m T) hr T.F_0m (zb (pvJ 0) (zb (peD L.toLv (ok_0p T) hr T.F_0p (zb (pvJ 1) (zb (pvJ 3) ze zg) zg)) (zb (pvJ 4) ze zg) yI) zg)) ze yI) zg) zC) zg) zg)) ze)))) zR)) (zj (yU (qd PySem.F.plainAttrs_list PySem.F.slot_list_extend PySem.F.type_list_extend jU (pvJ 8) (zb (peD L.toLv (ok_0x T) hr T.F_0x (zb (pvJ 2) (zb (pvJ 1) (zb (pvJ 3) ze zg) zg) zg)) ze))) (zq (zD (pvJ 8))))))))),?_⟩;open_k0;obtain⟨f0,f1,hc⟩:=hz.1.cyc;have k60:=sp.k60;have b60:=Cal.beg_le f0 f1 hc (show 0<=(k:Int)+1 by omega) (show (k:Int)+1<=60 by omega) 'd';have bf:=Cal.beg_ge (k:=(k:Int)) f0 f1 hc 'o' 'o';have slo:=sp.lo;have shi:=sp.hi;refine⟨pa,la,f,dy,c,day,rfl,hz.1,λk' k0 k1 a b p1 H1 s1 e1=> ?_,λz=>absurd z 'o',λz=>absurd z 'o'⟩;obtain rfl:k'=(k:Int):=Cal.beg_one f0 f1 hc k0 k1 'o' 'o' a b slo shi;refine⟨p1,_,rfl,SqT.of e1,rfl,?_⟩;open_k0;rw[<-sp.ib];refine⟨p,dx,d,le,s0,day,ys,rfl,hP.same s1,s1.seq hS,n1,n2,hY.1.same s1,hY.2.1,λlg ws1 H2 fr2 P2 k2 e2 la2 lm2=> ?_⟩;have kk2:=(Kp.of_same s1).trans k2;have frg:=(Kp.of_same s1).frF fr2;obtain⟨R,hR⟩: ∃R:St->Hp->Prop,R=λσ3 H3=> ∃ws:List (Addr×Ln),Pot K t H3 p dx d (if (ys.any λz=>decide (z.2.2.1=day))=true then yi day ((List.range (if isb=true then k else k+1)).map λi:Nat=>cstF f dy c zs Gm day i) (s0.1+zG day ys,s0.2) else ([],(s0.1+zG day ys,s0.2))).2/\Kp H H3/\H3 lg=some (.lst (ws.map λw=>V.ref w.1))/\z7 H3 ws/\ws.map (·.2)=yg day 0 ys++(if (ys.any λz=>decide (z.2.2.1=day))=true then yi day ((List.range (if isb=true then k else k+1)).map λi:Nat=>cstF f dy c zs Gm day i) (s0.1+zG day ys,s0.2) else ([],(s0.1+zG day ys,s0.2))).1/\σ3= [some (.ref pa),some (.ref le),some (.ref p),some (.int day),some (.int k),some (.int (Cal.beg f dy c k)),some (.int (Cal.beg f dy c ((k:Int)+1))),some (.bl isb),some (.ref lg)]:=⟨_,rfl⟩
 have wl2:ws1.length<=40:=by
  have h:=congrArg List.length lm2;rw[Ja] at h;rw[h];exact JE (wX day ys 0) hY.2.1
 refine⟨R,?_,λσ3 H3 h3=> ?_⟩
 ·open_k0;refine⟨le,ys,rfl,kk2.sqL hS,kk2.ens hY.1,hY.2.1,λrd H3 _ s3 e3=>⟨rd,_,rfl, .inl (SqL.of e3),rfl,zgx _,_,rfl,?_⟩⟩;have kk3:=kk2.trans (Kp.of_same s3);have P3:=P2.same s3;rw[znt];simp only[Js,if_false];cases hany:(ys.any λz=>decide (z.2.2.1=day)) with
  |false=>
   rw[hany] at hR;rw[Jf 'd',hR];exact⟨ws1,P3,kk3,s3 _ _ e2,la2.keep (Kp.of_same s3),by rw[lm2];exact(Jt _).symm,rfl⟩
  |true=>
   rw[hany] at hR;rw[Jg rfl]
   (open_k0;repeat (dsimp only[tBM];open_k0))
   refine⟨.inl ⟨rfl,_,SqL.of (s3 _ _ e2)⟩,?_⟩;have cb:zgw K [.ref pa, .ref le, .int ((if isb=true then k else k+1:Nat):Int), .int day] H3 (λx H1=>zjB K t [.ref p, .int day,x] H1 (λx H1=>zi3 (.ref lg) [x] H1 λx H1=>R [some (.ref pa),some (.ref le),some (.ref p),some (.int day),some (.int k),some (.int (Cal.beg f dy c k)),some (.int (Cal.beg f dy c ((k:Int)+1))),some (.bl isb),some (.ref lg)] H1) E) E:=by
    rw[hR];have n61:(if isb=true then k else k+1)<=60:=by split<;>omega
    generalize (if isb=true then k else k+1)=n at n61 ⊢;refine⟨pa,le,la,f,dy,c,zs,ys,Gm day,n,day,rfl,n61,hz.kp kk3,kk3.sqL hS,hY.kp kk3,hG day,λrc H4 s4 e4=> ?_⟩;refine⟨p,dx,d,rc,_,day,_,rfl,P3.same s4,SqL.of e4,by rw[Ja,JI];exact n61,t100,λrr wr H5 fr5 P5 k5 e5 la5 lm5=> ?_⟩;have k35:=(Kp.of_same s4).trans k5;have e25:=k35.lst (s3 _ _ e2);have wl:wr.length<=120:=by
     have h:=congrArg List.length lm5;rw[Ja] at h;rw[h];refine JE (jq _ _ _) ?_;rw[Ja,JI];omega
    refine⟨lg,rr,_,_,rfl,rfl,e25,e5,by rw[Ja,Ja];exact qB 'o',?_⟩;obtain⟨a1,a2,a3⟩:=ziP (l1:=rr) (kk3.trans k35) frg e25 (la2.keep ((Kp.of_same s3).trans k35)) la5;exact⟨_,P5.app e25,a1,a2,a3,by rw[Jd,lm2,lm5];rfl,rfl⟩
   clear hR;cases isb with
   |true=>
    rw[Jg rfl];exact cb
   |false=>
    rw[Jf 'd'];exact cb
 rw[hR] at h3;obtain⟨ws3,P3,k3,e3,la3,lm3,rfl⟩:=h3;clear hR;dsimp only;obtain⟨r1,hr1⟩: ∃r1,r1=(if (ys.any λz=>decide (z.2.2.1=day))=true then yi day ((List.range (if isb=true then k else k+1)).map λi:Nat=>cstF f dy c zs Gm day i) (s0.1+zG day ys,s0.2) else ([],(s0.1+zG day ys,s0.2))):=⟨_,rfl⟩
 have r1t:r1.2.2.2.length<=300/\r1.1.length<=120:=by
  rw[hr1];split
  ·have h1:=zfu day ((List.range (if isb=true then k else k+1)).map λi:Nat=>cstF f dy c zs Gm day i) (s0.1+zG day ys,s0.2);have h2:=jq day ((List.range (if isb=true then k else k+1)).map λi:Nat=>cstF f dy c zs Gm day i) (s0.1+zG day ys,s0.2);rw[Ja,JI] at h1 h2;have n61:(if isb=true then k else k+1)<=60:=by split<;>omega
   have e9:(s0.1+zG day ys,s0.2).2.2.length=s0.2.2.length:=rfl;omega
  ·exact⟨JE t100 'd',Jv _⟩
 have wq:yq (cstF f dy c zs Gm) ys day k isb s0=(let b:=if isb=true then ([yv r1.2 day yX k (cstF f dy c zs Gm day k)],yK r1.2 k (cstF f dy c zs Gm day k)) else ([],r1.2);let e:=yx day ys b.2;(yg day 0 ys++r1.1++b.1++e.1,e.2)):=by
  rw[hr1];rfl
 rw[wq] at q;rw[<-hr1] at P3 lm3;clear wq hr1;have wl3:ws3.length<=160:=by
  have h:=congrArg List.length lm3;rw[Ja,Jj] at h
  have:=JE (wX day ys 0) hY.2.1;omega
 obtain⟨R2,hR2⟩: ∃R2:St->Hp->Prop,R2=λσ4 H4=> ∃ws:List (Addr×Ln),Pot K t H4 p dx d (if isb=true then ([yv r1.2 day yX k (cstF f dy c zs Gm day k)],yK r1.2 k (cstF f dy c zs Gm day k)) else ([],r1.2)).2/\Kp H H4/\H4 lg=some (.lst (ws.map λw=>V.ref w.1))/\z7 H4 ws/\ws.map (·.2)=yg day 0 ys++r1.1++(if isb=true then ([yv r1.2 day yX k (cstF f dy c zs Gm day k)],yK r1.2 k (cstF f dy c zs Gm day k)) else ([],r1.2)).1/\σ4= [some (.ref pa),some (.ref le),some (.ref p),some (.int day),some (.int k),some (.int (Cal.beg f dy c k)),some (.int (Cal.beg f dy c ((k:Int)+1))),some (.bl isb),some (.ref lg)]:=⟨_,rfl⟩
 refine⟨R2,?_,λσ4 H4 h4=> ?_⟩
 ·(open_k0;repeat (dsimp only[tBM];open_k0))
  rw[hR2];clear hR2 q;cases isb with
  |false=>
   rw[Jf 'd'];exact⟨ws3,P3,k3,e3,la3,by rw[lm3];exact(Jt _).symm,rfl⟩
  |true=>
   rw[Jg rfl];refine⟨.inl ⟨rfl,_,SqL.of e3⟩,le,ys,day,rfl,k3.sqL hS,k3.ens hY.1,hY.2.1,hY.2.2.1,hY.2.2.2.1,λrt as H4 _ s4 e4 t4=> ?_⟩;have k34:=k3.trans (Kp.of_same s4);obtain⟨ts,tA,tk,tz⟩:=zfL dy c hY.2.2.1 hY.2.2.2.1 hY.2.1 (k34.ens hY.1) hY.2.2.2.2.1 e4 t4;refine⟨pa,rt,la,f,dy,c,zs,ts,Gm day,k,rfl,hz.kp k34,tA,(hY.kp k34).tmx (λt h=>(tA.2.2.1 t h).2.2.1) tz,hG day ts tk,λ_ _ H5 s5=> ?_,λh=>absurd h 'o',λh=>absurd h (by have:=sp.k60;omega)⟩;refine⟨p,dx,d,r1.2,day,yX,k,_,rfl,(P3.same s4).same s5,JE r1t.1 'd',λrm H6 P6 k6 e6=> ?_⟩;have k36:=(Kp.of_same (s4.trans s5)).trans k6;refine⟨lg,_,_,rfl,rfl,k36.lst e3,by rw[Ja];exact qi 'o',?_⟩;obtain⟨a1,a2,a3⟩:=xU (k3.trans k36) frg (k36.lst e3) (la3.keep k36) e6;exact⟨_,P6.app (k36.lst e3),a1,a2,a3,by rw[Jd,lm3];rfl,rfl⟩
 rw[hR2] at h4;obtain⟨ws4,P4,k4,e4,la4,lm4,rfl⟩:=h4;clear hR2;dsimp only at q;obtain⟨b,hb⟩: ∃b,b=(if isb=true then ([yv r1.2 day yX k (cstF f dy c zs Gm day k)],yK r1.2 k (cstF f dy c zs Gm day k)) else ([],r1.2)):=⟨_,rfl⟩
 have b1:b.1.length<=1:=by
  rw[hb];split<;>simp
 rw[<-hb] at P4 lm4 q;clear hb
 (open_k0;repeat (dsimp only[tBM];open_k0))
 refine⟨.inl ⟨rfl,_,SqL.of e4⟩,p,dx,d,le,b.2,day,ys,rfl,P4,k4.sqL hS,k4.ens hY.1,hY.2.1,λrb wb H5 fr5 P5 k5 e5 la5 lm5=> ?_⟩;have wl4:ws4.length<=200:=by
  have h:=congrArg List.length lm4;rw[Ja,Jj,<-lm3,Ja] at h;omega
 have wl5:wb.length<=1:=by
  have h:=congrArg List.length lm5;rw[Ja] at h;rw[h];exact zgp _ _ _
 have e45:=k5.lst e4;refine⟨lg,rb,_,_,rfl,rfl,e45,e5,by rw[Ja,Ja];exact qB 'o',?_⟩;obtain⟨a1,a2,a3⟩:=ziP (l1:=rb) (k4.trans k5) frg e45 (la4.keep k5) la5;exact q lg _ _ frg (P5.app e45) a1 a2 a3 (by rw[Jd,lm4,lm5])
theorem zfN{f:Int}{dy:Bool}{c:Int}: ∀{ws:List Int},(∀x∈ws,∃(k:Nat) (isb:Bool),SpAt f dy c x k isb)-> ∃ds:List (Int×Nat×Bool),ds.map (·.1)=ws/\ ∀z∈ds,SpAt f dy c z.1 z.2.1 z.2.2
 | [],_=>⟨[],rfl,nofun⟩
 |x::r,h=>by
  obtain⟨ds,e,hd⟩:=zfN (ws:=r) λy hy=>h y (Jl _ hy);obtain⟨k,isb,hk⟩:=h x Jq;refine⟨(x,k,isb)::ds,by rw[JA,e],λz hz=> ?_⟩;rcases JD.mp hz with rfl|hz
  ·exact hk
  ·exact hd z hz
def zpL(K:Fg)(t:Adr):Sp:=λvs H Q E=> ∃(pa le la:Addr) (f:Int) (dy:Bool) (c:Int) (zs:List (V×Pl)) (ys:List En) (Gm:Int->Int->List D) (day:Int),vs= [.ref pa, .ref le, .int day]/\yG K H pa la f dy c zs/\H le=some (.lst (ys.map (·.1)))/\EnX zs f (Cal.beg f dy c 60) K H ys/\(∀z∈ys,f<=z.2.2.1)/\(∀m,GL f dy c ys m (Gm m))/\(f<=day->day<Cal.beg f dy c 60-> ∀r lr p dx d (ds:List (Int×Nat×Bool)) (ws:List (Addr×Ln)) H',WDays f dy c ys day ds->Fr H lr->ds.length<=100->Kp H H'->H' r=some (.tup [.ref lr, .ref p])->Pot K t H' p dx d (yd (cstF f dy c zs Gm) ys ds (0,0, [])).2->H' lr=some (.lst (ws.map λw=>V.ref w.1))->z7 H' ws->ws.map (·.2)=(yd (cstF f dy c zs Gm) ys ds (0,0, [])).1->Q (.ref r) H')/\(day<f-> ∀H',zk H H'->E (.ref t.c_Z06) none H')/\(Cal.beg f dy c 60<=day-> ∀H',zk H H'->E (.ref t.c_Z0c) none H')
theorem sc_0z:FnScope ["account","entries","day","pots","lines","work_day"] ["account","entries","day"] (zE s_0z):=by sl_open
theorem ok_0z(T:Txt w K mg t):FnOk P w K mg base (CXE P w) 13 t.a_0z t.d_0z ["account","entries","day"] (zpL K t):=by
 refine T.F_0z.fn.okX sc_0z ?_ λcdv A outer s H vs Q E L hr h=> ?_
 ·kdl_open
 obtain⟨pa,le,la,f,dy,c,zs,ys,Gm,day,rfl,hz,hS,hY,hy0,hG,q,q2,q3⟩:=h;have nd:=sc_0z.nd;refine⟨_,(zj (psJ 3 nd (zkC T.mk_Z07 (ok_1h T) (hr.mono 'd') (by rfl) T.mg_Z07 T.b_1h .nil ww)) (zj (psJ 4 nd (zY ze)) (zj (qp (by passes_own) rfl (qo (peD L.toLv (ok_0s T) hr T.F_0s (zb (pvJ 0) (zb (pvJ 1) (zb (pvJ 2) ze zg) zg) zg))) (zr (i:=5) nd rfl (Or.inl rfl)) (zq (yU (qd PySem.F.plainAttrs_list PySem.F.slot_list_extend PySem.F.type_list_extend jU (pvJ 4) (zb (peD L.toLv (ok_0y T) hr T.F_0y (zb (pvJ 0) (zb (pvJ 1) (zb (pvJ 3) (zb (pvJ 5) ze zg) zg) zg) zg)) ze))))) (zq (zD (zN (zb (pvJ 4) (zb (pvJ 3) ze zg) zg))))))),?_⟩;open_k0;intro p dx hp hdx ndx;refine⟨p,dx,rfl,zF,λd H1 hd e1 ep b1=>⟨rfl,?_⟩⟩;have s1:zk H H1:=λb u e=>b1 b u (λz=>by rw[z,hp] at e;cases e) (by rw[zu (λz=>by rw[z,hp] at e;cases e),zu (λz=>by rw[z,hdx] at e;cases e)];exact e);clear b1 hd hdx ndx;intro l0 H2 hl0 s2 e2;have s12:=s1.trans s2;have fr2:Fr H l0:=λu e=>by rw[s1 _ _ e] at hl0;cases hl0
 have P2:Pot K t H2 p dx d (0,0, []):=⟨s2 _ _ ep, [],s2 _ _ e1,trivial⟩
 clear hl0 s1 s2 ep e1 hp
 ((try dsimp only);refine qC λR hR=> ?_;(open_k0;repeat (dsimp only[yH,qm,qr,qb,qx];open_k0)))
 obtain⟨f0,f1,hc⟩:=hz.1.cyc;refine⟨pa,le,la,f,dy,c,day,ys,rfl,hz.1.same s12,SqL.of (s12 _ _ hS),hY.1.same s12,hY.2.1,λd0 d1 lw ws H3 s3 e3 up mem l100=> ?_,λz H' s'=>q2 z H' (s12.trans s'),λz H' s'=>q3 z H' (s12.trans s')⟩;obtain⟨ds,eds,hds⟩:=zfN (f:=f) (dy:=dy) (c:=c) (ws:=ws) λx hx=>by
  have x0:f<=x/\x<=day:=by
   rcases (mem x).mp hx with⟨j,j1,j2,rfl⟩|⟨z,hz,rfl,z2⟩
   ·exact⟨Cal.beg_ge f0 f1 hc 'o' 'o',j2⟩
   ·exact⟨hy0 z hz,z2⟩
  obtain⟨k,k0,k1,a,b⟩:=uj (f:=f) (dy:=dy) (c:=c) (d:=x) (by rw[Cal.beg_zero f0 f1];exact x0.1) 60 (by show x<Cal.beg f dy c 60;omega);obtain⟨k,rfl⟩:=Int.eq_ofNat_of_zero_le k0;exact⟨k,_,'o',a,b,rfl⟩
 have wd:WDays f dy c ys day ds:=⟨by rw[eds];exact up,hds,λx=>by
  rw[eds,mem];constructor
  ·rintro(⟨j,j1,j2,rfl⟩|⟨z,hz,rfl,z2⟩)
   ·exact⟨j2, .inl ⟨j,j1,rfl⟩⟩
   ·exact⟨z2, .inr ⟨z,hz,rfl⟩⟩
  ·rintro⟨h,⟨j,j1,rfl⟩|⟨z,hz,rfl⟩⟩
   ·exact .inl ⟨j,j1,h,rfl⟩
   ·exact .inr ⟨z,hz,rfl,h⟩⟩
 have dl:ds.length<=100:=by
  have:=congrArg List.length eds;rw[Ja] at this;omega
 have dk: ∀z∈ds,z.2.1<60:=λz hz=>(hds z hz).k60;have fw:f∈ws:=(mem f).mpr (.inl ⟨0,'d',by show Cal.beg f dy c 0<=day;rw[Cal.beg_zero f0 f1];exact d0,(Cal.beg_zero f0 f1).symm⟩);have nl:lw≠l0:=λz=>by
  have h:=s3 _ _ e2;rw[<-z,e3] at h;injection h with h
  injection h with h
  rw[List.map_eq_nil_iff.mp h] at fw;cases fw
 subst eds;clear up mem fw;refine⟨lw,rfl,⟨_,SqL.of e3⟩,hR _ _ ?_⟩;clear hR;have P3:=P2.same s3;have k3:=Kp.of_same (s12.trans s3);have e23:=s3 _ _ e2;clear P2 e2 s12 s3;obtain⟨Pw,hPw⟩: ∃Pw:Nat->St->Hp->Prop,Pw=λi σ1 H4=> ∃(ws:List (Addr×Ln)) (x5:Option V),Pot K t H4 p dx d (yd (cstF f dy c zs Gm) ys (ds.take i) (0,0, [])).2/\Kp H H4/\H4 lw=some (.lst ((ds.map (·.1)).map V.int))/\H4 l0=some (.lst (ws.map λw=>V.ref w.1))/\z7 H4 ws/\ws.map (·.2)=(yd (cstF f dy c zs Gm) ys (ds.take i) (0,0, [])).1/\σ1= [some (.ref pa),some (.ref le),some (.int day),some (.ref p),some (.ref l0),x5]:=⟨_,rfl⟩
 refine ve (xs:=(ds.map (·.1)).map V.int) Pw (by rw[hPw];exact⟨[],_,P3,k3,e3,e23,nofun,rfl,rfl⟩) (λ_ _ _ _ h=>by rw[hPw] at h;obtain⟨_,_,_,_,k,_⟩:=h;exact SqL.of k) (λi x σ1 H4 hxx h=> ?_) (λσ1 H4 h=> ?_)
 ·rw[hPw] at h;obtain⟨ws,x5,P4,k4,k34,e4,la4,lm4,rfl⟩:=h;rw[Jh,Jh] at hxx;obtain⟨y,hy,rfl⟩:=Jk.mp hxx;obtain⟨z,hz1,rfl⟩:=Jk.mp hy;have nx:=zgs (cstF f dy c zs Gm) ys (0,0, []) hz1;have zm:=Ji hz1;have il:=(Jc.mp hz1).1;have tk: ∀z∈ds.take i,z.2.1<60:=λz h=>dk z (List.mem_of_mem_take h);have tO:=(zfx (cstF f dy c zs Gm) ys (ds.take i) (0,0, []) tk ⟨List.Pairwise.nil,nofun⟩).len;have wl:ws.length<=20000:=by
   have h1:=zes (cstF f dy c zs Gm) hY.2.1 (ds.take i) (0,0, []) tk;have h2:=congrArg List.length lm4;rw[Ja] at h2;rw[JB] at h1;omega
  have wl2:=zer (cstF f dy c zs Gm) (ys:=ys) z.1 z.2.2 (yd (cstF f dy c zs Gm) ys (ds.take i) (0,0, [])).2 (dk z zm) hY.2.1;have eS:=k4.lst hS
  (open_k0;repeat (dsimp only[tBM];open_k0))
  refine⟨.inl ⟨rfl,_,SqL.of e4⟩,pa,le,la,p,dx,d,f,dy,c,zs,ys,Gm,_,z.1,z.2.1,z.2.2,rfl,hz.kp k4,SqL.of eS,hY.kp k4,hG,P4,(λz=>by rw[z,P4.1] at eS;cases eS),(λz=>by obtain⟨_,kvs,g,_⟩:=P4;rw[z,g] at eS;cases eS),hds z zm,'o',λrw wr H5 fr5 P5 k5 e5 la5 lm5=> ?_⟩;have e45:=k5.lst e4;refine⟨l0,rw,_,_,rfl,rfl,e45,e5,by rw[Ja,Ja,sizeLine_eq];have h:=congrArg List.length lm5;rw[Ja] at h;omega,?_⟩;obtain⟨a1,a2,a3⟩:=ziP (l1:=rw) (k4.trans k5) fr2 e45 (la4.keep k5) la5;rw[hPw];exact⟨_,_,by rw[nx];exact P5.app e45,a1,by rw[zu nl];exact k5.lst k34,a2,a3,by rw[Jd,lm4,lm5,nx],rfl⟩
 rw[hPw] at h;obtain⟨ws,x5,P4,k4,k34,e4,la4,lm4,rfl⟩:=h;open_k0;rw[Ja,Ja,JC] at P4 lm4;exact λr H5 hr s5 e5=>q d0 d1 r l0 p dx d ds ws H5 wd fr2 dl (k4.trans (Kp.of_same s5)) e5 (P4.same s5) (s5 _ _ e4) (la4.keep (Kp.of_same s5)) lm4
def jz:Sp:=λvs H Q _=> ∃c k:Int,vs= [.int c, .int k]/\0<=k/\k<=1000/\ ∀r,0<=r->r<10 ^ 16->Q (.int r) H
theorem sc_11:FnScope ["_law_cell","_law_k","_law_number"] ["_law_cell","_law_k"] (zE s_11):=by sl_open
theorem ok_11(T:Txt w K mg t):FnOk P w K mg base (CXE P w) 1 t.a_11 t.d_11 ["_law_cell","_law_k"] (jz):=by
 refine T.F_11.fn.okX sc_11 ?_ λcdv A outer s H vs Q E L hr h=> ?_
 ·kdl_open
 obtain⟨c,k,rfl,k0,k1,q⟩:=h;have nd:=sc_11.nd;refine⟨_,(zj (psJ 2 nd (zh zK (zh zO (zh zO (zh qt (zh zK (pvJ 0) zc) zc) (zh qt (pvJ 1) zc)) zc) zc)) (zj (psJ 2 nd (zh zK (zh zO (zh qt (pvJ 2) (pvJ 2)) (pvJ 1)) zc)) (zq (zD (zh zO (zh qt (zh zK (zh qt (pvJ 2) (zh zO (pvJ 2) zc)) zc) zc) (pvJ 2)))))),?_⟩;open_k0;generalize h1:(c % 2147483647*48271+k*69621+7919) % 2147483629=n1;have b1:0<=n1/\n1<2147483629:=by omega
 generalize h2:(n1*n1+k) % 2147483587=n2;have b2:0<=n2/\n2<2147483587:=by
  rw[<-h2];exact⟨JN _ 'd',JL _ 'd'⟩
 generalize h3:n2*(n2+69621) % 2147483563=n3;have b3:0<=n3/\n3<2147483563:=by
  rw[<-h3];exact⟨JN _ 'd',JL _ 'd'⟩
 refine⟨.inl ⟨'o','o'⟩, .inl ⟨'o','o'⟩, .inl ⟨'o','o'⟩, .inl ⟨'o','o'⟩, .inl ⟨'o','o'⟩,q _ 'o' 'o'⟩
def ziQ(K:Fg):Sp:=λvs H Q _=> ∃(l:Addr) (cs:List Int) (k:Int),vs= [.ref l, .int k]/\SqL K H l (cs.map V.int)/\0<=k/\k<=1000/\cs.length<=10000/\ ∀r,Q (.int r) H
theorem sc_12:FnScope ["_law_script","_law_k"] ["_law_script","_law_k"] (zE s_12):=by sl_open
theorem ok_12(T:Txt w K mg t):FnOk P w K mg base (CXE P w) 2 t.a_12 t.d_12 ["_law_script","_law_k"] (ziQ K):=by
 refine T.F_12.fn.okX sc_12 ?_ λcdv A outer s H vs Q E L hr h=> ?_
 ·kdl_open
 obtain⟨l,cs,k,rfl,hl,k0,k1,c1,q⟩:=h;have nd:=sc_12.nd;refine⟨_,(zj (zP (PWQ.pq (xR (yp qy (pvJ 1) (ye xW (by rfl) T.no_len xY (zb (pvJ 0) ze))) (xQ (qe (zh zK (ixJ yj (pvJ 0) (zh zK zc (ye xW (by rfl) T.no_len xY (zb (pvJ 0) ze)))) zc) zc)))) (zq (zD (ixJ yj (pvJ 0) (pvJ 1)))) zR) (zj (zP (qe (ye xW (by rfl) T.no_len xY (zb (pvJ 0) ze)) zc) (zq (zD (peD L.toLv (ok_11 T) hr T.F_11 (zb zc (zb (pvJ 1) ze zg) zC)))) zR) (zq (zD (peD L.toLv (ok_11 T) hr T.F_11 (zb (ixJ yj (pvJ 0) (zh zK (pvJ 1) (ye xW (by rfl) T.no_len xY (zb (pvJ 0) ze)))) (zb (pvJ 1) ze zg) yf)))))),?_⟩;open_k0;have mixed: ∀c,jz [V.int c,V.int k] H Q E:=λc=>⟨c,k,rfl,k0,k1,λr _ _=>q r⟩
 have tail: ∃x,(SqL K H l x\/SqT K H l x)/\if (x.length:Int)=0 then jz [V.int 0,V.int k] H Q E else∃x,(SqL K H l x\/SqT K H l x)/\0<(x.length:Int)/\vL K (V.ref l) (V.int (k % x.length)) H λx H1=>jz [x,V.int k] H1 Q E:=by
  refine⟨_, .inl hl,?_⟩;rw[Ja];split
  ·exact mixed 0
  ·rename_i n0;refine⟨_, .inl hl,?_⟩;rw[Ja];exact⟨'o',ixL hl (vR (JN _ n0) (JL _ 'o')) (mixed _)⟩
 refine⟨_, .inl hl,?_⟩;rw[Ja];split
 ·refine⟨_, .inl hl,?_⟩;rw[Ja];refine⟨'o',ixL hl (vR (JN _ 'o') (JL _ 'o')) ⟨_,rfl,?_⟩⟩;split
  ·exact ixL hl (vR k0 'o') (q _)
  ·exact tail
 ·exact tail
def zhZ(K:Fg):Sp:=λvs H Q _=> ∃c:Int,vs= [.int c]/\ ∀l (ws:List (List Nat)) H',zk H H'->ws.length=8->H' l=some (.lst (ws.map λw=> .str (SL w)))->Q (.ref l) H'
theorem sc_13:FnScope ["_law_cell","_law_size","_law_at","_law_other","_law_letters","_law_names_here","_law_k","_law_one"] ["_law_cell"] (zE s_13):=by sl_open
theorem ok_13(T:Txt w K mg t):FnOk P w K mg base (CXE P w) 1 t.a_13 t.d_13 ["_law_cell"] (zhZ K):=by
 refine T.F_13.fn.okX sc_13 ?_ λcdv A outer s H vs Q E L hr h=> ?_
 ·kdl_open
 obtain⟨c,rfl,q⟩:=h;have nd:=sc_13.nd;refine⟨_,(zj (psJ 1 nd (zh zO zc (zh zK (pvJ 0) zc))) (zj (psJ 2 nd (zh zK (zh yQ (pvJ 0) zc) (pvJ 1))) (zj (psJ 3 nd (ixJ zqb (zI st_19) (zh zK (zh yQ (pvJ 0) zc) zc))) (zj (psJ 4 nd (zI st_18)) (zj (psJ 5 nd (zY ze)) (zj (qp (by passes_own) rfl (xJ (by rfl) T.no_range (zb zc ze)) (zr (i:=6) nd rfl (Or.inl rfl)) (zj (psJ 7 nd (ixJ zqb (pvJ 4) (zh zK (zh zO (zh yQ (pvJ 0) zc) (zh qt zc (pvJ 6))) zc))) (zq (yU (qd PySem.F.plainAttrs_list PySem.F.slot_list_append PySem.F.type_list_append qq (pvJ 5) (zb (zh zhh (zh zhh (zh zho (pvJ 3) (pvJ 2)) (pvJ 7)) (zh zho (pvJ 3) (zh zX (zh zX (pvJ 1) zc) (pvJ 2)))) ze)))))) (zq (zD (pvJ 5))))))))),?_⟩;open_k0;have sb:1<=1+c % 8/\1+c % 8<=8:=by omega
 generalize 1+c % 8=sz at sb ⊢;have ab:0<=c / 8 % sz/\c / 8 % sz<sz:=⟨JN _ 'o',JL _ 'o'⟩
 generalize c / 8 % sz=at' at ab ⊢;obtain⟨ot,eo⟩: ∃ot,atI [97,98,99,100,101,102,103,104] (c / 64 % 8)=some ot:=by
  obtain⟨r,hr⟩: ∃r:Nat,c / 64 % 8=r:=⟨(c / 64 % 8).toNat,'o'⟩
  have r8:r<8:=by omega
  rw[hr];exact⟨_,xf (Jb (by show r<8;exact r8))⟩
 refine⟨'o',ot,eo,λln H1 hln s1 e1=> ?_⟩;clear eo;obtain⟨a,rfl⟩:=Int.eq_ofNat_of_zero_le ab.1
 ((try dsimp only);refine qC λR hR=> ?_;(open_k0;repeat (dsimp only[yH,qm,qr,qb,qx];open_k0)))
 refine⟨'o','o',hR _ _ ?_⟩;clear hR;obtain⟨Pv,hPv⟩: ∃Pv:Nat->St->Hp->Prop,Pv=λi σ1 H5=>zk H H5/\ ∃ws:List (List Nat),ws.length=i/\H5 ln=some (.lst (ws.map λw=>V.str (SL w)))/\ ∃x6 x7,σ1= [some (.int c),some (.int sz),some (.int (a:Nat)),some (.str (SL [ot])),some (.str (SL azL)),some (.ref ln),x6,x7]:=⟨_,rfl⟩
 refine vf Pv (by rw[hPv];exact⟨s1, [],rfl,e1,_,_,rfl⟩) (λi σ1 H5 hi h=> ?_) (λσ1 H5 h=> ?_)
 ·rw[hPv] at h;obtain⟨s5,ws,wl,e5,x6,x7,rfl⟩:=h;open_k0;have rb:0<=(c / 512+3*(0+(i:Int))) % 26/\(c / 512+3*(0+(i:Int))) % 26<26:=⟨JN _ 'd',JL _ 'd'⟩
  refine⟨.inl ⟨'o','o'⟩,_,zqh rb.1 rb.2,?_⟩;generalize 97+((c / 512+3*(0+(i:Int))) % 26).toNat=u
  (open_k0;repeat (dsimp only[tBM];open_k0))
  have rl: ∀n:Nat,(List.replicate n [ot]).flatten.length=n:=λn=>by simp
  obtain⟨b,hb⟩: ∃b:Nat,sz - 1 - (a:Int)=b:=⟨(sz - 1 - (a:Int)).toNat,'o'⟩
  refine⟨.inl ⟨rfl,_,SqL.of e5⟩,a,rfl,'o',qB (by rw[rl];omega),b,hb,'o',qB (by rw[Jj,rl,rl];show a+1+b<=1000;omega),?_⟩;refine⟨ln,_,_,rfl,rfl,e5,by rw[Ja];exact qi 'o',?_⟩;rw[hPv];exact⟨uD s5 hln,ws++ [_],by rw[Jj,wl];rfl,by rw[zF,Jd];rfl,_,_,rfl⟩
 ·rw[hPv] at h;obtain⟨s5,ws,wl,e5,x6,x7,rfl⟩:=h;open_k0;exact q ln ws H5 s5 'o' e5
theorem vD(h:i.natAbs<=10 ^ 30):Sm i:=Sm.pow10 (k:=30) 'd' h
theorem qu{xs:List Int}{lo hi:Int}{Q:VK}(b: ∀x∈xs,lo<=x/\x<=hi)(h0:0<=i)(h1:i<xs.length)(q: ∀v H',zk H H'->lo<=v->v<=hi->Q (.int v) H'):New H (.lst (xs.map V.int)) λx H1=>vL K x (.int i) H1 Q:=λp H1 _ s1 e1=>ixL (SqL.of e1) (vR h0 h1) (q _ _ s1 (jY b h0 h1).1 (jY b h0 h1).2)
theorem zpM{z:V×Pl}{lp:Addr}{o:HO}(h:vt K H z)(e:H lp=some (.lst xs)):vt K (upd H lp o) z:=by
 obtain⟨p,e1,q⟩:=h;refine⟨p,e1,?_⟩;rcases q with(h|⟨o',h⟩)|h
 ·exact .inl (.inl (by rw[zu (λz=>by rw[z,e] at h;cases h)];exact h))
 ·exact .inl (.inr ⟨o',by rw[zu (λz=>by rw[z,e] at h;cases h)];exact h⟩)
 ·exact .inr h
def zh0(K:Fg):Sp:=λvs H Q _=> ∃(c:Int) (ln:Addr) (ws:List (List Nat)),vs= [.int c, .ref ln]/\ws.length=8/\H ln=some (.lst (ws.map λw=> .str (SL w)))/\ ∀l (zs:List (V×Pl)) H',zk H H'->H' l=some (.lst (zs.map (·.1)))->xC K H' zs->vC zs->Q (.ref l) H'
theorem sc_14:FnScope ["_law_cell","_law_names_here","_law_many","_law_plans_here","_law_k","_law_price","_law_count"] ["_law_cell","_law_names_here"] (zE s_14):=by sl_open
theorem ok_14(T:Txt w K mg t):FnOk P w K mg base (CXE P w) 1 t.a_14 t.d_14 ["_law_cell","_law_names_here"] (zh0 K):=by
 refine T.F_14.fn.okX sc_14 ?_ λcdv A outer s H vs Q E L hr h=> ?_
 ·kdl_open
 obtain⟨c,ln,ws,rfl,w8,hn,q⟩:=h;have nd:=sc_14.nd;refine⟨_,(zj (psJ 2 nd (ixJ yj (zY (zb (zh zO zc (zh zK (pvJ 0) zc)) (zb zc ze zC) zM)) (xV uw (by rfl) T.no_int vN (zb (xt xr (zh zK (zh yR (pvJ 0) zc) zc) zc (yu _)) ze)))) (zj (psJ 0 nd (zh yR (pvJ 0) zc)) (zj (psJ 3 nd (zY ze)) (zj (qp (by passes_own) rfl (xJ (by rfl) T.no_range (zb (pvJ 2) ze)) (zr (i:=4) nd rfl (Or.inl rfl)) (zj (psJ 5 nd (ixJ yj (zY (zb (zh zK (zh yR (pvJ 0) zc) zc) (zb (zh zK (zh yR (pvJ 0) zc) (zh kY zc zc)) (zb (zh zK (zh yR (pvJ 0) zc) zc) (zb zc ze zC) zM) zM) zM)) (zh zK (pvJ 0) zc))) (zj (psJ 0 nd (zh yR (zh yR (pvJ 0) zc) (ixJ yj (zY (zb zc (zb (zh kY zc zc) (zb zc (zb zc ze zC) zC) zM) zC)) (zh zK (pvJ 0) zc)))) (zj (psJ 6 nd (ixJ yj (zY (zb zc (zb zc (zb (ixJ yj (zY (zb zc (zb zc (zb zc (zb zc ze zC) zC) zC) zC)) (zh zK (zh yR (pvJ 0) zc) zc)) (zb (zh zO zc (zh zK (zh yR (pvJ 0) zc) zc)) ze zM) yf) zC) zC)) (zh zK (pvJ 0) zc))) (zj (psJ 0 nd (zh yR (zh yR (pvJ 0) zc) (ixJ yj (zY (zb zc (zb zc (zb zc (zb zc ze zC) zC) zC) zC)) (zh zK (pvJ 0) zc)))) (zq (yU (qd PySem.F.plainAttrs_list PySem.F.slot_list_append PySem.F.type_list_append qq (pvJ 3) (zb (zN (zb (ixJ yj (pvJ 1) (pvJ 4)) (zb (pvJ 5) (zb (pvJ 6) ze zg) zg) yf)) ze))))))))) (zq (zD (pvJ 3))))))),?_⟩;open_k0;intro p1 H1 _ s1 e1;have e1':H1 p1=some (.lst (([1+c % 4,8]:List Int).map V.int)):=e1;obtain⟨ix,hix⟩: ∃ix:Int,ix=if c / 4 % 8=5 then 1 else 0:=⟨_,rfl⟩
 rw[<-hix];have ib:0<=ix/\ix<2:=by rw[hix];split<;>decide
 have bn:=jY (xs:= [1+c % 4,8]) (lo:=1) (hi:=8) (λx hx=>by
  simp only[JD,List.not_mem_nil,or_false] at hx;rcases hx with rfl|rfl<;>omega) ib.1 ib.2
 refine⟨vD 'd',ixL (SqL.of e1') (vR ib.1 ib.2) ?_⟩;clear e1 e1' hix;generalize ([1+c % 4,8]:List Int).getD ix.toNat 0=n at bn ⊢;refine⟨vD 'd',λlp H2 hlp s2 e2=> ?_⟩;have s12:=s1.trans s2;have nlp:H lp=none:=by
  cases h:H lp with
  |none=>rfl
  |some u=>rw[s1 _ _ h] at hlp;cases hlp
 ((try dsimp only);refine qC λR hR=> ?_;(open_k0;repeat (dsimp only[yH,qm,qr,qb,qx];open_k0)))
 refine⟨'o','o',hR _ _ ?_⟩;clear hR;obtain⟨Pv,hPv⟩: ∃Pv:Nat->St->Hp->Prop,Pv=λi σ1 H5=>zk H H5/\ ∃(c':Int) (zs:List (V×Pl)),zs.length=i/\H5 lp=some (.lst (zs.map (·.1)))/\xC K H5 zs/\(∀z∈zs,(0<=z.2.2.1/\z.2.2.1<10 ^ 30)/\0<=z.2.2.2/\z.2.2.2<=400)/\ ∃x4 x5 x6,σ1= [some (.int c'),some (.ref ln),some (.int n),some (.ref lp),x4,x5,x6]:=⟨_,rfl⟩
 refine vf Pv (by rw[hPv];exact⟨s12,_, [],rfl,e2,nofun,nofun,_,_,_,rfl⟩) (λi σ1 H5 hi h=> ?_) (λσ1 H5 h=> ?_)
 ·rw[hPv] at h;obtain⟨s5,c',zs,zl,e5,pa5,pb5,x4,x5,x6,rfl⟩:=h;open_k0;have i4: ∀x:Int,0<=x % 4/\x % 4<4:=λx=>by omega
  have S4:Sm 4:=vD 'd';have cp:wH 10 30:=by unfold wH;decide
  refine⟨S4,S4,cp,'d',S4,qu (xs:= [c' / 4 % 1000,c' / 4 % 10 ^ 30,c' / 4 % 7,0]) (lo:=0) (hi:=10 ^ 30 - 1) (λx hx=>by
   simp only[JD,List.not_mem_nil,or_false] at hx;rcases hx with rfl|rfl|rfl|rfl<;>omega) (i4 c').1 (i4 c').2 λpr H6 s6 pr0 pr1=>⟨S4,cp,qu (xs:= [1000,10 ^ 30,7,1]) (lo:=1) (hi:=10 ^ 30) (λx hx=>by
   simp only[JD,List.not_mem_nil,or_false] at hx;rcases hx with rfl|rfl|rfl|rfl<;>decide) (i4 c').1 (i4 c').2 λd1 H7 s7 d10 d11=>⟨d1,rfl,'o',vD 'o',?_⟩⟩⟩
  generalize c' / 4 / d1=c2;refine λp9 H9 h9 s9 e9=>⟨S4,qu (xs:= [7,28,30,31]) (lo:=0) (hi:=400) (λx hx=>by
   simp only[JD,List.not_mem_nil,or_false] at hx;rcases hx with rfl|rfl|rfl|rfl<;>decide) (i4 (c2 / 4)).1 (i4 (c2 / 4)).2 (λn1 H8 s8 n10 n11=> ?_) p9 H9 h9 s9 e9⟩
  refine⟨S4,qu (xs:= [0,0,n1,1+c2 / 4 % 400]) (lo:=0) (hi:=400) (λx hx=>by
   simp only[JD,List.not_mem_nil,or_false] at hx;rcases hx with rfl|rfl|rfl|rfl<;>omega) (i4 c2).1 (i4 c2).2 λct HA sA ct0 ct1=>⟨S4,qu (xs:= [1,1,4,400]) (lo:=1) (hi:=400) (λx hx=>by
   simp only[JD,List.not_mem_nil,or_false] at hx;rcases hx with rfl|rfl|rfl|rfl<;>decide) (i4 c2).1 (i4 c2).2 λd2 HB sB d20 d21=>⟨d2,rfl,'o',vD 'o',?_⟩⟩⟩
  have s5B:=s6.trans (s7.trans (s8.trans (sA.trans sB)));have sHB:=s5.trans s5B;have e5B:=s5B _ _ e5;have iw:i<ws.length:=by omega
  (open_k0;repeat (dsimp only[tBM];open_k0))
  refine⟨.inl ⟨rfl,_,SqL.of e5B⟩,ixL (v:= .str (SL ws[i])) (SqL.of (sHB _ _ hn)) (by rw[JS];exact xf (by rw[Jh,Jb iw];rfl)) ?_⟩;intro pt HC _ sC eC;refine⟨lp,_,_,rfl,rfl,sC _ _ e5B,by rw[Ja];exact qi 'o',?_⟩;rw[hPv];refine⟨uD (sHB.trans sC) nlp,_,zs++ [(.ref pt,ws[i],pr,ct)],by rw[Jj,zl];rfl,by rw[zF,Jd];rfl,λz hz=> ?_,λz hz=> ?_,_,_,_,rfl⟩
  ·refine zpM ?_ (sC _ _ e5B);rcases Jr.mp hz with h|h
   ·exact(pa5 z h).same (s5B.trans sC)
   ·rw[Jm.mp h];exact⟨pt,rfl,SqT.of eC⟩
  ·rcases Jr.mp hz with h|h
   ·exact pb5 z h
   ·rw[Jm.mp h];exact⟨⟨pr0,by show pr<10 ^ 30;omega⟩,ct0,ct1⟩
 ·rw[hPv] at h;obtain⟨s5,c',zs,zl,e5,pa5,pb5,x4,x5,x6,rfl⟩:=h;open_k0;exact q lp zs H5 s5 e5 pa5 ⟨'o','o',pb5⟩
def zpN(K:Fg):Sp:=λvs H Q _=> ∃(a:Addr) (cs:List Int),vs= [.ref a]/\SqL K H a (cs.map V.int)/\cs.length<=10000/\ ∀p l (zs:List (V×Pl)) (f:Int) dy cc H',zk H H'->yG K H' p l f dy cc zs->Q (.ref p) H'
theorem sc_15:FnScope ["_law_script","_law_x","_law_y","_law_first","_law_cycle"] ["_law_script"] (zE s_15):=by sl_open
theorem ok_15(T:Txt w K mg t):FnOk P w K mg base (CXE P w) 3 t.a_15 t.d_15 ["_law_script"] (zpN K):=by
 refine T.F_15.fn.okX sc_15 ?_ λcdv A outer s H vs Q E L hr h=> ?_
 ·kdl_open
 obtain⟨a,cs,rfl,hS,cl,q⟩:=h;have nd:=sc_15.nd;refine⟨_,(zj (psJ 1 nd (peD L.toLv (ok_12 T) hr T.F_12 (zb (pvJ 0) (zb zc ze zC) zg))) (zj (psJ 2 nd (peD L.toLv (ok_12 T) hr T.F_12 (zb (pvJ 0) (zb zc ze zC) zg))) (zj (psJ 3 nd (ixJ yj (zY (zb zc (zb zc (zb zc (zb zc (zb (zh zK (zh yQ (pvJ 1) zc) zc) (zb (zh zO zc (zh zK (zh yQ (pvJ 1) zc) zc)) ze zM) zM) zC) zC) zC) zC)) (zh zK (pvJ 1) zc))) (zj (psJ 4 nd (zN (zb (zI st_4) (zb (ixJ yj (zY (zb zc (zb (zh zO zc (zh zK (zh yQ (pvJ 2) zc) zc)) (zb (zh zO zc (zh zK (zh yQ (pvJ 2) zc) zc)) (zb zc ze zC) zM) zM) zC)) (zh zK (zh yQ (pvJ 2) zc) zc)) ze yf) zC))) (zj (zP (qe (zh zK (pvJ 2) zc) zc) (zq (psJ 4 nd (zN (zb (zI st_20) (zb (ixJ yj (zY (zb (zh zO zc (zh zK (zh yQ (pvJ 2) zc) zc)) (zb zc (zb zc (zb (zh zO zc (zh zK (zh yQ (pvJ 2) zc) zc)) ze zM) zC) zC) zM)) (zh zK (zh yQ (pvJ 2) zc) zc)) ze yf) zC)))) zR) (zq (zD (zN (zb (peD L.toLv (ok_14 T) hr T.F_14 (zb (peD L.toLv (ok_12 T) hr T.F_12 (zb (pvJ 0) (zb zc ze zC) zg)) (zb (peD L.toLv (ok_13 T) hr T.F_13 (zb (zh yQ (pvJ 2) zc) ze)) ze yI) yI)) (zb (pvJ 3) (zb (pvJ 4) ze zg) zg) yI))))))))),?_⟩;open_k0;refine⟨a,cs,0,rfl,hS,'d','d',cl,λx=> ?_⟩;refine⟨a,cs,1,rfl,hS,'d','d',cl,λy=> ?_⟩;try open_k0
 have last: ∀(f:Int) (dy:Bool) (cc:Int) (pc:Addr) (H1:Hp),zk H H1->0<=f->f<=3500000->H1 pc=some (.tup [.str (SL (if dy then [100,97,121,115] else [109,111,110,116,104,115])), .int cc])->Cal.CycOk dy cc->ziQ K [V.ref a,V.int 2] H1 (λx_8 H1=>zhZ K [V.int (y / 3)] H1 (λx_9 H1=>zh0 K [x_8,x_9] H1 (λx_10 H1=>New H1 (HO.tup [x_10, .int f, .ref pc]) Q) E) E) E:=λf dy cc pc H1 s1 f0 f1 e1 hc=>
  ⟨a,cs,2,rfl,(Kp.of_same s1).sqL hS,'d','d',cl,λz=>⟨y / 3,rfl,λln ws H2 s2 w8 e2=>⟨z,ln,ws,rfl,w8,e2,λl zs H3 s3 e3 p3 i3 p H4 _ s4 e4=>q p l zs f dy cc H4 (s1.trans (s2.trans (s3.trans s4))) ⟨⟨pc,f0,f1,⟨SqT.of ((s2.trans (s3.trans s4)) _ _ e1),hc⟩,e4⟩,s4 _ _ e3,p3.same s4,i3⟩⟩⟩⟩
 refine qu (xs:= [738915,738944,0,3500000,x / 6 % 3500001,738915+x / 6 % 1461]) (lo:=0) (hi:=3500000) (λx hx=>by
  simp only[JD,List.not_mem_nil,or_false] at hx;rcases hx with rfl|rfl|rfl|rfl|rfl|rfl<;>omega) (JN x (show (6:Int)≠0 by decide)) (JL x (show (0:Int)<6 by decide)) λf H1 s1 f0 f1=> ?_
 refine qu (xs:= [1,1+y / 4 % 3,1+y / 4 % 12,1]) (lo:=1) (hi:=12) (λx hx=>by
  simp only[JD,List.not_mem_nil,or_false] at hx;rcases hx with rfl|rfl|rfl|rfl<;>omega) (JN _ (show (4:Int)≠0 by decide)) (JL _ (show (0:Int)<4 by decide)) λm H2 s2 m0 m1=> ?_
 refine λp3 H3 _ s3 e3=>y8 (λ_=> ?_) (λ_=>last f false m p3 H3 (s1.trans (s2.trans s3)) f0 f1 e3 (Cal.cyc_months 'o' 'o'));refine qu (xs:= [1+y / 2 % 31,7,30,1+y / 2 % 400]) (lo:=1) (hi:=400) (λx hx=>by
  simp only[JD,List.not_mem_nil,or_false] at hx;rcases hx with rfl|rfl|rfl|rfl<;>omega) (JN _ (show (4:Int)≠0 by decide)) (JL _ (show (0:Int)<4 by decide)) λdd H4 s4 d0 d1=> ?_
 exact λp5 H5 _ s5 e5=>last f true dd p5 H5 (s1.trans (s2.trans (s3.trans (s4.trans s5)))) f0 f1 e5 (Cal.cyc_days 'o' 'o')
def zh1(K:Fg):Sp:=λvs H Q _=> ∃(pa l:Addr) (f:Int) (dy:Bool) (c:Int) (b:Bool),vs= [.ref pa, .bl b]/\qS K H pa l f dy c/\ ∀k:Int,2<=k->k<=60-> ∀H',zk H H'->Q (.int (Cal.beg f dy c k - f)) H'
theorem sc_16:FnScope ["_law_account_here","_law_far","_law_word","_law_many","_law_spans"] ["_law_account_here","_law_far"] (zE s_16):=by sl_open
theorem ok_16(T:Txt w K mg t):FnOk P w K mg base (CXE P w) 6 t.a_16 t.d_16 ["_law_account_here","_law_far"] (zh1 K):=by
 refine T.F_16.fn.okX sc_16 ?_ λcdv A outer s H vs Q E L hr h=> ?_
 ·kdl_open
 obtain⟨pa,l,f,dy,c,b,rfl,⟨pc,f0,f1,hc,ep⟩,q⟩:=h;have nd:=sc_16.nd;refine⟨_,(zj (yB (ixJ zQ (pvJ 0) zc) (zZ (n:=2) rfl (zH (zr (i:=2) nd rfl (Or.inl rfl)) (zH (zr (i:=3) nd rfl (Or.inl rfl)) yF)))) (zj (psJ 4 nd zc) (zj (zP (yp q5 (pvJ 3) (ixJ yj (zY (zb zc (zb zc ze zC) zC)) (xV uw (by rfl) T.no_int vN (zb (xt xr (pvJ 2) (zI st_20) (yu _)) ze)))) (zq (psJ 4 nd zc)) zR) (zj (zP (PWQ.pq (xR (qL (zgW (pvJ 1))) (xQ (yp jK (pvJ 3) (ixJ yj (zY (zb zc (zb zc ze zC) zC)) (xV uw (by rfl) T.no_int vN (zb (xt xr (pvJ 2) (zI st_20) (yu _)) ze))))))) (zq (psJ 4 nd zc)) zR) (zq (zD (zh zX (peD L.toLv (ok_08 T) hr T.F_08 (zb (ixJ zQ (pvJ 0) zc) (zb (ixJ zQ (pvJ 0) zc) (zb (pvJ 4) ze zg) yf) yf)) (ixJ zQ (pvJ 0) zc)))))))),?_⟩;open_k0;refine ixT (SqT.of ep) (wZ _ _ _ _) ⟨pc,_,rfl,hc.1,rfl,?_⟩;open_k0;obtain⟨ix,hix⟩: ∃ix:Int,ix=if (if dy=true then [100,97,121,115] else [109,111,110,116,104,115])= [100,97,121,115] then 1 else 0:=⟨_,rfl⟩
 rw[<-hix];have ib:0<=ix/\ix<2:=by rw[hix];split<;>decide
 clear hix;have last: ∀(k:Int) (H2:Hp),zk H H2->2<=k->k<=60->vm K (V.ref pa) (V.int 1) H2 λx H1=>vm K (V.ref pa) (V.int 2) H1 λx_1 H1=>zjw K t [x,x_1,V.int k] H1 (λx H1=>vm K (V.ref pa) (V.int 1) H1 λy H2=> ∃i,x=V.int i/\ ∃x,y=V.int x/\Q (V.int (i - x)) H2) E:=λk H2 s2 k0 k1=>
  ixT (SqT.of (s2 _ _ ep)) (yY _ _ _) (ixT (SqT.of (s2 _ _ ep)) (wZ _ _ _ _) ⟨f,pc,dy,c,k,rfl,f0,f1,hc.same s2,λ_ _ H3 s3=>ixT (SqT.of (s3 _ _ (s2 _ _ ep))) (yY _ _ _) ⟨_,rfl,_,rfl,q k k0 k1 H3 (s2.trans s3)⟩,λz=>absurd z 'o',λz=>absurd z 'o'⟩)
 have bd: ∀a d:Int,∀x∈ [a,d],min a d<=x/\x<=max a d:=λa d x hx=>by
  simp only[JD,List.not_mem_nil,or_false] at hx;rcases hx with rfl|rfl<;>omega
 refine qu (xs:= [3,40]) (bd 3 40) ib.1 ib.2 λv H2 s2 _ _=>⟨_,rfl,?_⟩
 refine y8 (λ_=>y8 (λ_=>qu (xs:= [1,31]) (bd 1 31) ib.1 ib.2 λw H3 s3 _ _=>⟨_,rfl,y8 (λ_=>last 60 H3 (s2.trans s3) 'd' 'd') (λ_=>last 2 H3 (s2.trans s3) 'd' 'd')⟩) (λ_=>last 2 H2 s2 'd' 'd'))
  (λ_=>y8 (λ_=>qu (xs:= [1,31]) (bd 1 31) ib.1 ib.2 λw H3 s3 _ _=>⟨_,rfl,y8 (λ_=>last 60 H3 (s2.trans s3) 'd' 'd') (λ_=>last 8 H3 (s2.trans s3) 'd' 'd')⟩) (λ_=>last 8 H2 s2 'd' 'd'))
theorem zh2: ∀{L:List Int} {i:Nat} {k:Int},L.Nodup->L[i]? =some k->L.erase k=L.eraseIdx i
 | [],i,k,_,h=>by simp at h
 |x::r,0,k,_,h=>by cases h;exact List.erase_cons_head ..
 |x::r,i+1,k,d,h=>by
  have h':r[i]? =some k:=h;have ne: ¬x=k:=λz=>(List.nodup_cons.mp d).1 (z ▸ Ji h');rw[List.erase_cons_tail (by simpa using ne),List.eraseIdx_cons_succ,zh2 (List.nodup_cons.mp d).2 h']
theorem zqH{j:Nat}(h:j<n):PySem.seqIndex? (j:Int) n=some j:=by
 have c0: ¬((j:Int)<0):=by omega
 simp [PySem.seqIndex?,c0,h]
theorem zpO{a:Int}(a0:0<=a)(a1:a<2)(i0:0<=i)(i1:i<4): ∃w,w<4/\ ∃v,atI [V.str (SL [115,116,111,112]),V.str (SL [108,97,115,116])] a=some v/\atI [V.str (SL [104,111,108,100]),V.str (SL [103,111]),v,V.str (SL [103,111])] i=some (.str (SL (qV w))):=by
 have h:i=0\/i=1\/i=2\/i=3:=by omega
 have g:a=0\/a=1:=by omega
 rcases g with rfl|rfl
 ·rcases h with rfl|rfl|rfl|rfl
  ·exact⟨0,'d',_,rfl,rfl⟩
  ·exact⟨1,'d',_,rfl,rfl⟩
  ·exact⟨2,'d',_,rfl,rfl⟩
  ·exact⟨1,'d',_,rfl,rfl⟩
 ·rcases h with rfl|rfl|rfl|rfl
  ·exact⟨0,'d',_,rfl,rfl⟩
  ·exact⟨1,'d',_,rfl,rfl⟩
  ·exact⟨3,'d',_,rfl,rfl⟩
  ·exact⟨1,'d',_,rfl,rfl⟩
def zke(K:Fg):Sp:=λvs H Q _=> ∃(x n en:Int) (pa la ll:Addr) (f:Int) (dy:Bool) (c:Int) (zs:List (V×Pl)) (re:Int) (N:Nat) (L:List Int),vs= [.int x, .int n, .int en, .ref pa, .int re, .ref ll]/\n=N/\yG K H pa la f dy c zs/\0<re/\re<10 ^ 9/\f+re<=Cal.beg f dy c 60/\0<=en/\en<re/\H ll=some (.lst (L.map V.int))/\L.length<=40/\L.Nodup/\ ∀p ch H',(∀b o,b≠ll->H b=some o->H' b=some o)->H' ll=some (.lst ((qJ N L ch).map V.int))->H' p=some (.tup ((chD ch).map sv))->uQ (zs.map λz=>z.2.1) f (Cal.beg f dy c 60) L ch->Q (.ref p) H'
theorem sc_17:FnScope ["_law_x","_law_number","_law_entered","_law_account_here","_law_reach_here","_law_open_terms","_law_own","_law_way"] ["_law_x","_law_number","_law_entered","_law_account_here","_law_reach_here","_law_open_terms"] (zE s_17):=by sl_open
theorem ok_17(T:Txt w K mg t):FnOk P w K mg base (CXE P w) 1 t.a_17 t.d_17 ["_law_x","_law_number","_law_entered","_law_account_here","_law_reach_here","_law_open_terms"] (zke K):=by
 refine T.F_17.fn.okX sc_17 ?_ λcdv A outer s H vs Q E L hr h=> ?_
 ·kdl_open
 obtain⟨x,n,en,pa,la,ll,f,dy,c,zs,re,N,L,rfl,rfl,hz,r0,r1,r2,en0,en1,el,l40,nd,q⟩:=h;have nd:=sc_17.nd;refine⟨_,(zj (psJ 6 nd (zh zO (ixJ zQ (pvJ 3) zc) (ixJ yj (zY (zb (zh zK (zh yR (pvJ 0) zc) (pvJ 4)) (zb (pvJ 2) (zb (ye (xu (by rfl)) (by rfl) T.no_min xA (zb (zh zX (pvJ 4) zc) (zb (zh zO (pvJ 2) (zh zK (zh yR (pvJ 0) zc) zc)) ze zM) zM)) ze yI) zg) zM)) (zh zK (zh yR (pvJ 0) zc) zc)))) (zj (psJ 7 nd (zh zK (pvJ 0) zc)) (zj (wJ (zP (PWQ.pq (xR (qe (pvJ 7) zc) (xQ (qL (ql (vV hr) (pvJ 5) (zY ze) (yu _)))))) (zq (zD (zN (zb (zI st_13) (zb (qd PySem.F.plainAttrs_list PySem.F.slot_list_pop PySem.F.type_list_pop zkJ (pvJ 5) (zb (zh zK (zh yR (pvJ 0) zc) (ye xW (by rfl) T.no_len xY (zb (pvJ 5) ze))) ze)) ze yI) zC)))) zR)) (zj (wJ (zP (PWQ.pq (xR (yp q5 (pvJ 7) zc) (xQ (yp qy (pvJ 7) zc)))) (zq (zD (zN (zb (zI st_14) (zb (zh zO zc (ixJ yj (zY (zb (zh zK (zh yR (pvJ 0) zc) zc) (zb (zh zK (zh yR (pvJ 0) zc) (zh zX (zh kY zc zc) zc)) ze zM) zM)) (zh zK (zh yR (pvJ 0) zc) zc))) ze zM) zC)))) zR)) (zj (zP (qe (pvJ 7) zc) (zq (zD (zN (zb (zI st_16) ze)))) zR) (zj (yU (qd PySem.F.plainAttrs_list PySem.F.slot_list_append PySem.F.type_list_append qq (pvJ 5) (zb (pvJ 1) ze))) (zj (psJ 0 nd (zh yR (zh yR (pvJ 0) zc) (pvJ 4))) (zj (zP (yp qy (pvJ 7) zc) (zq (zD (zN (zb (zI st_11) (zb (pvJ 6) (zb (ixJ zQ (ixJ yj (ixJ zQ (pvJ 3) zc) (zh zK (pvJ 0) (ye xW (by rfl) T.no_len xY (zb (ixJ zQ (pvJ 3) zc) ze)))) zc) ze yf) zg) zC)))) zR) (zj (zP (yp qy (pvJ 7) zc) (zq (zD (zN (zb (zI st_12) (zb (pvJ 6) (zb (ixJ yj (zY (zb (zh zK (pvJ 0) zc) (zb (zh zK (pvJ 0) zc) ze zM) zM)) (zh zX (pvJ 7) zc)) ze yf) zg) zC)))) zR) (zq (zD (zN (zb (ixJ yj (zY (zb (zI st_21) (zb (zI st_22) (zb (ixJ yj (zY (zb (zI st_23) (zb (zI st_9) ze zC) zC)) (zh zK (pvJ 0) zc)) (zb (zI st_22) ze zC) yf) zC) zC)) (zh zX (pvJ 7) zc)) (zb (pvJ 6) ze zg) yf))))))))))))),?_⟩;obtain⟨⟨pc,_,_,_,ep⟩,ela,za,zi⟩:=hz;have hT:=SqT.of (K:=K) ep;have hW: ∀i:Int,i.natAbs<=10 ^ 30->Sm i:=λi h=>vD h;open_k0;refine ixT hT (yY _ _ _) ⟨hW _ 'd',r0,hW _ 'd',λp1 H1 h1 s1 e1=>⟨hW _ 'd',?_⟩⟩;refine qu (xs:= [x / 72 % re,en,if en+x / 72 % 9<re - 1 then en+x / 72 % 9 else re - 1]) (lo:=0) (hi:=re - 1) (λy hy=>by
  have q1:=JN (x / 72) (show re≠0 by omega);have q2:=JL (x / 72) r0;simp only[JD,List.not_mem_nil,or_false] at hy;rcases hy with rfl|rfl|rfl
  ·omega
  ·omega
  ·split<;>omega) (show 0<=x / 24 % 3 by omega) (show x / 24 % 3<3 by omega) (λo H2 s2 o0 o1=>⟨_,rfl,_,rfl,?_⟩) p1 H1 h1 s1 e1
 clear e1 s1 h1;obtain⟨R,hR⟩: ∃R:St->Hp->Prop,R=λσ' H'=>zk H H'/\σ'= [some (.int x),some (.int (N:Int)),some (.int en),some (.ref pa),some (.int re),some (.ref ll),some (.int (f+o)),some (.int (x % 12))]:=⟨_,rfl⟩
 refine⟨R,?_,λσ2 H3 h3=> ?_⟩
 ·open_k0;refine y8 (λ_=>λp3 H3 _ s3 e3=> ?_) (λ_=>by rw[hR];exact⟨s2,rfl⟩);have s23:=s2.trans s3;refine⟨0, .lst (L.map D.int), .lst [],xN (SqL.of (s23 _ _ el)) (zf4 _),xN (SqL.of e3) trivial,rfl,rfl,'d',λj a b _ h=>by simp at h,_,rfl,?_⟩;cases L with
  |nil=>rw[hR];exact⟨s23,rfl⟩
  |cons u r=>
   refine qW rfl ?_
   (open_k0;repeat (dsimp only[tBM];open_k0))
   refine⟨.inl ⟨rfl,_,SqL.of (s23 _ _ el)⟩,hW _ 'd',_, .inl (SqL.of (s23 _ _ el)),?_⟩;rw[Ja];have l0:0<((u::r).length:Int):=by rw[Jp];omega
   have i1:0<=x / 72 % ((u::r).length:Int)/\x / 72 % ((u::r).length:Int)<(u::r).length:=⟨JN _ 'o',JL _ l0⟩
   obtain⟨j,hj⟩:=Int.eq_ofNat_of_zero_le i1.1;rw[hj] at i1 ⊢;have jl:j<(u::r).length:=by omega
   have gk:(u::r)[j]? =some ((u::r)[j]):=Jb jl;refine⟨l0,ll,_,(j:Int),j, .int ((u::r)[j]),rfl,rfl,s23 _ _ el,'o','o',?_,by rw[Jh,gk];rfl,?_⟩
   ·rw[Ja];exact zqH jl
   ·intro p4 H4 h4 s4 e4;refine q p4 (.undo ((u::r)[j])) H4 (λb o hb e=>s4 _ _ (by rw[zu hb];exact s23 _ _ e)) ?_ e4 (List.getElem_mem jl);rw[s4 _ _ zF,<-zf6];show some (HO.lst (((u::r).eraseIdx j).map V.int))=some (HO.lst (((u::r).erase ((u::r)[j])).map V.int));rw[zh2 nd gk]
 rw[hR] at h3;obtain⟨s3,rfl⟩:=h3;clear hR;have kp: ∀{H'},zk H3 H'-> ∀b o,b≠ll->H b=some o->H' b=some o:=λs b o _ e=>s _ _ (s3 _ _ e);obtain⟨R,hR⟩: ∃R:St->Hp->Prop,R=λσ' H'=>(x % 12<=8\/x % 12=11)/\H'=H3/\σ'= [some (.int x),some (.int (N:Int)),some (.int en),some (.ref pa),some (.int re),some (.ref ll),some (.int (f+o)),some (.int (x % 12))]:=⟨_,rfl⟩
 refine⟨R,?_,λσ4 H4 h4=> ?_⟩
 ·open_k0;have cp:wH 10 30:=by unfold wH;decide
  have gr:Sm 72/\Sm 72/\wH 10 30/\(0:Int)<10 ^ 30 - 1/\New H3 (HO.lst [V.int (x / 72 % 2000),V.int (x / 72 % (10 ^ 30 - 1))]) λx_1 H1=>Sm 12/\vL K x_1 (V.int (x / 12 % 2)) H1 λy H2=> ∃x,y=V.int x/\New H2 (HO.tup [V.str (SL [103,114,97,110,116]),V.int (1+x)]) Q:=by
   refine⟨hW _ 'd',hW _ 'd',cp,'d',λp5 H5 h5 s5 e5=>⟨hW _ 'd',?_⟩⟩;refine qu (xs:= [x / 72 % 2000,x / 72 % (10 ^ 30 - 1)]) (lo:=0) (hi:=10 ^ 30 - 2) (λy hy=>by
    simp only[JD,List.not_mem_nil,or_false] at hy;rcases hy with rfl|rfl<;>omega) (show 0<=x / 12 % 2 by omega) (show x / 12 % 2<2 by omega) (λa H6 s6 a0 a1=>⟨_,rfl,λp7 H7 _ s7 e7=> ?_⟩) p5 H5 h5 s5 e5
   exact q p7 (.grant (1+a)) H7 (kp (s6.trans s7)) ((s6.trans s7) _ _ (s3 _ _ el)) e7 ⟨'o','o'⟩
  refine y8 (λ_=>y8 (λ_=>gr) (λ_=>by rw[hR];exact⟨'o',rfl,rfl⟩)) (λ_=>by rw[hR];exact⟨'o',rfl,rfl⟩)
 rw[hR] at h4;obtain⟨x8,rfl,rfl⟩:=h4;clear hR
 (open_k0;repeat (dsimp only[tBM];open_k0))
 refine y8 (λ_=>λp5 H5 _ s5 e5=>q p5 .back H5 (kp s5) (s5 _ _ (s3 _ _ el)) e5 trivial) (λx11=>⟨.inl ⟨rfl,_,SqL.of (s3 _ _ el)⟩,ll,_,_,rfl,rfl,s3 _ _ el,by rw[Ja];exact qi 'o',hW _ 'd',r0,hW _ 'o',?_⟩);have kp5: ∀b o,b≠ll->H b=some o->upd H4 ll (.lst (L.map V.int++ [.int (N:Int)])) b=some o:=λb o hb e=>by rw[zu hb];exact s3 _ _ e
 have el5:upd H4 ll (.lst (L.map V.int++ [.int (N:Int)])) ll=some (.lst ((L++ [(N:Int)]).map V.int)):=by rw[zF,Jd];rfl
 generalize upd H4 ll (.lst (L.map V.int++ [.int (N:Int)]))=H5 at kp5 el5 ⊢;have tp: ∀{p:Addr} {xs:List V},SqT K H p xs->SqT K H5 p xs:=fun {p xs} h=>zmZ h el kp5;have nla:la≠ll:=λz=>by
  rw[z,el] at ela;have e:L.map V.int=zs.map (·.1):=by injection ela with e;injection e
  obtain⟨z0,hz0⟩: ∃z0,zs[0]? =some z0:=⟨zs[0]'(by have:=zi.1;omega),Jb _⟩
  obtain⟨p,ez,_⟩:=za z0 (Ji hz0);have h:(L.map V.int)[0]? =(zs.map (·.1))[0]? :=by rw[e]
  rw[Jh,Jh,hz0,Option.map_some,ez] at h;obtain⟨k,_,hk⟩:=Jk.mp h;cases hk
 have ela5:=kp5 _ _ nla ela;refine y8 (λ_=> ?_) (λ_=>y8 (λ_=> ?_) (λ_=> ?_))
 ·have l1:=zi.1;refine ixT (tp hT) (z5 _ _) (ixT (tp hT) (z5 _ _) ⟨la,rfl,_, .inl (SqL.of ela5),?_⟩);rw[Ja];generalize x / 72 / re=y;have i1:0<=y % (zs.length:Int)/\y % (zs.length:Int)<zs.length:=⟨JN _ 'o',JL _ 'o'⟩
  obtain⟨j,hj⟩:=Int.eq_ofNat_of_zero_le i1.1;rw[hj] at i1 ⊢;obtain⟨z,hz⟩: ∃z,zs[j]? =some z:=⟨zs[j]''o',Jb _⟩
  obtain⟨p,ez,hq⟩:=za z (Ji hz);refine⟨'o',ixL (v:=z.1) (SqL.of ela5) (xf (by rw[Jh,hz];rfl)) ?_⟩;rw[ez];exact ixT (tp hq) (v:= .str (SL z.2.1)) rfl λp1 H1 _ s1 e1=>q p1 (.plan (f+o) z.2.1) H1 (λb o hb e=>s1 _ _ (kp5 b o hb e)) (s1 _ _ el5) e1 ⟨'o','o',Jw.mpr ⟨z,Ji hz,rfl⟩⟩
 ·generalize x / 72 / re=y;refine qu (xs:= [y % 4,y % 1000001]) (lo:=0) (hi:=1000000) (λy hy=>by
   simp only[JD,List.not_mem_nil,or_false] at hy;rcases hy with rfl|rfl<;>omega) (show 0<=x % 12 - 3 by omega) (show x % 12 - 3<2 by omega) λa H6 s6 a0 a1=> ?_
  exact λp1 H1 _ s1 e1=>q p1 (.seats (f+o) a) H1 (λb o hb e=>(s6.trans s1) _ _ (kp5 b o hb e)) ((s6.trans s1) _ _ el5) e1 ⟨'o','o',a0,a1⟩
 ·generalize x / 72 / re=y;intro p6 H6 _ s6 e6;obtain⟨w,w4,v,ev,ew⟩:=zpO (a:=y % 2) (i:=x % 12 - 5) 'o' 'o' 'o' 'o';refine ixL (SqL.of e6) ev λp7 H7 _ s7 e7=>ixL (SqL.of e7) ew λp8 H8 _ s8 e8=> ?_;exact q p8 (.word w (f+o)) H8 (λb o hb e=>((s6.trans s7).trans s8) _ _ (kp5 b o hb e)) (((s6.trans s7).trans s8) _ _ el5) e8 ⟨w4,'o','o'⟩
theorem zmi{le ll:Addr}{f:Int}{zs:List En}{pe p:Addr}{en:Int}(I:EnInv K H0 H le ll nms f e zs)(ep:H' pe=some (.tup [.int en, .ref p]))(ec:H' p=some (.tup ((chD ch).map sv)))
  (kp: ∀b o,b≠le->b≠ll->H b=some o->H' b=some o) (e1:H' le=some (.lst (zs.map (·.1)++ [.ref pe]))) (e2:H' ll=some (.lst ((qJ zs.length (ym (chs zs)) ch).map V.int)))
  (h1:f<=en) (h2:en<e) (h3: ∀y∈zs,y.2.2.1<=en) (h4:uQ nms f e (ym (chs zs)) ch):EnInv K H0 H' le ll nms f e (zs++ [(.ref pe,p,en,ch)]):=by
 refine⟨λb o eb=>kp b o (yZ eb I.n1) (yZ eb I.n2) (I.same b o eb),I.n1,I.n2,I.ne,by rw[e1,Jd];rfl,?_,λz hz=> ?_,I.ok.snoc h1 h2 h3 h4⟩
 ·have ec:chs (zs++ [(V.ref pe,p,en,ch)])=chs zs++ [ch]:=by unfold chs;rw[Jd];rfl
  rw[e2,ec,kC,wg]
 ·rcases Jr.mp hz with y|y
  ·obtain⟨q,ez,q1,q2⟩:=I.at' z y;exact⟨q,ez,zhu q1 I.e1 I.e2 kp,zhu q2 I.e1 I.e2 kp⟩
  ·rw[Jm.mp y];exact⟨pe,rfl,SqT.of ep,SqT.of ec⟩
def zfO(K:Fg):Sp:=λvs H Q _=> ∃(a:Addr) (cs:List Int) (pa la:Addr) (f:Int) (dy:Bool) (c:Int) (zs:List (V×Pl)) (re:Int) (mn:Nat),vs= [.ref a, .ref pa, .int re, .int 5, .int mn]/\SqL K H a (cs.map V.int)/\cs.length<=10000/\yG K H pa la f dy c zs/\0<re/\re<10 ^ 9/\f+re<=Cal.beg f dy c 60/\mn<=24/\ ∀le ys H',zk H H'->yE K H' ys->qK (zs.map λz=>z.2.1) f (Cal.beg f dy c 60) ys->ys.length<=40->H' le=some (.lst (ys.map (·.1)))->Q (.ref le) H'
theorem sc_18:FnScope ["_law_script","_law_account_here","_law_reach_here","_law_start","_law_many","_law_days","_law_found","_law_open_terms","_law_k","_law_x"] ["_law_script","_law_account_here","_law_reach_here","_law_start","_law_many"] (zE s_18):=by sl_open
theorem ok_18(T:Txt w K mg t):FnOk P w K mg base (CXE P w) 3 t.a_18 t.d_18 ["_law_script","_law_account_here","_law_reach_here","_law_start","_law_many"] (zfO K):=by
 refine T.F_18.fn.okX sc_18 ?_ λcdv A outer s H vs Q E L hr h=> ?_
 ·kdl_open
 obtain⟨a,cs,pa,la,f,dy,c,zs,re,mn,rfl,hS,cl,hz,r0,r1,r2,m24,q⟩:=h;have nd:=sc_18.nd;refine⟨_,(zj (psJ 5 nd (ye zgO (by rfl) T.no_sorted uF (zb (xB (n:=1) (N:= ["_law_k","_law_script","_law_start","_law_reach_here"]) (js:= [0,3,2]) (by rfl) rfl rfl (xJ (by rfl) T.no_range (zb (pvJ 4) ze)) (λa=>(zr (i:=0) (show List.Nodup (["_law_k","_law_script","_law_start","_law_reach_here"]:List Str) from by decide+kernel) rfl (Or.inl rfl))) (λa=>xL) (λa=>(zh zK (peD wL (ok_12 T) hr T.F_12 (zb (pvJ 1) (zb (zh zO (pvJ 2) (zh qt zc (pvJ 0))) ze zM) zg)) (pvJ 3)))) ze))) (zj (psJ 6 nd (zY ze)) (zj (psJ 7 nd (zY ze)) (zj (qp (by passes_own) rfl (xJ (by rfl) T.no_range (zb (pvJ 4) ze)) (zr (i:=8) nd rfl (Or.inl rfl)) (zj (psJ 9 nd (peD L.toLv (ok_12 T) hr T.F_12 (zb (pvJ 0) (zb (zh zO (zh zO (pvJ 3) (zh qt zc (pvJ 8))) zc) ze zM) zg))) (zq (yU (qd PySem.F.plainAttrs_list PySem.F.slot_list_append PySem.F.type_list_append qq (pvJ 6) (zb (zN (zb (zh zO (ixJ zQ (pvJ 1) zc) (ixJ yj (pvJ 5) (pvJ 8))) (zb (peD L.toLv (ok_17 T) hr T.F_17 (zb (pvJ 9) (zb (pvJ 8) (zb (ixJ yj (pvJ 5) (pvJ 8)) (zb (pvJ 1) (zb (pvJ 2) (zb (pvJ 7) ze zg) zg) zg) yf) zg) zg)) ze yI) zM)) ze)))))) (zq (zD (pvJ 6))))))),?_⟩;open_k0
 (open_k0;repeat (dsimp only[qG,qb,yH];open_k0))
 refine⟨'o','o',λlc hlc aa=> ?_⟩;rw[JF];refine qQ (λj ys _=> ∃ds:List Int,ys=ds.map V.int/\ds.length=j/\ ∀d∈ds,0<=d/\d<re) (uE 0 _ H) hlc (by rw[qz];exact qj 'o') (λ_ _=>⟨[],rfl,rfl,(λ_ h=>nomatch h)⟩) (λj y ys H8 K1 K0 hx sm pv hl k1 k0=> ?_) (λys H7 s7 pv _ w7=> ?_)
 ·have hj:=(Jc.mp hx).1;rw[qz] at hj;rw[vU hj] at hx;cases hx;obtain⟨ds,rfl,dl,db⟩:=pv;open_k0;refine⟨.inl ⟨'o','o'⟩,a,cs,_,rfl,sm.seq hS,'o','o',cl,λr=>⟨_,rfl,r0,?_⟩⟩;have b0:=JN r (show re≠0 by omega);have b1:=JL r r0;refine k1 _ _ (zk.refl _) λH5 _=>⟨ds++ [r % re],by rw[Jd];rfl,by rw[Jj,dl];rfl,λd hd=> ?_⟩
  rcases Jr.mp hd with z|z
  ·exact db d z
  ·rw[Jm.mp z];exact⟨b0,b1⟩
 rw[qz] at pv;obtain⟨ds,rfl,dl,db⟩:=pv;refine⟨lc,rfl,ds,w7,'o',λws wp wo lw H8 hlw s8 e8 le H9 hle s9 e9 ll H10 hll s10 e10=> ?_⟩;have wl:ws.length=mn:=wp.length_eq.trans dl;have wb: ∀d∈ws,0<=d/\d<re:=λd hd=>db d (wp.mem_iff.mp hd);have s08:=s7.trans s8;have I0:EnInv K H8 H10 le ll (zs.map λz=>z.2.1) f (Cal.beg f dy c 60) []:=by
  refine⟨s9.trans s10,hle,s9.none hll,λz=> ?_,s10 _ _ e9,e10,λz hz=>(nomatch hz),qK.nil⟩;rw[<-z,e9] at hll;cases hll
 have hz8:=hz.same s08;have hS8:=s08.seq hS;clear hS hz
 ((try dsimp only);refine qC λR hR=> ?_;(open_k0;repeat (dsimp only[yH,qm,qr,qb,qx];open_k0)))
 refine⟨'o','o',hR _ _ ?_⟩;clear hR;rw[JF];obtain⟨Pw,hPw⟩: ∃Pw:Nat->St->Hp->Prop,Pw=λi σ1 H5=> ∃(ys:List En) (x8 x9:Option V),EnInv K H8 H5 le ll (zs.map λz=>z.2.1) f (Cal.beg f dy c 60) ys/\ys.length=i/\(∀(j:Nat) y,ys[j]? =some y->ws[j]? =some (y.2.2.1 - f))/\σ1= [some (.ref a),some (.ref pa),some (.int re),some (.int 5),some (.int mn),some (.ref lw),some (.ref le),some (.ref ll),x8,x9]:=⟨_,rfl⟩
 refine vf (n:=mn) Pw (by rw[hPw];exact⟨[],_,_,I0,rfl,(λj y h=>by rw[List.getElem?_nil] at h;cases h),rfl⟩) (λi σ1 H5 hi hv=> ?_) (λσ1 H5 hv=> ?_)
 ·rw[hPw] at hv;obtain⟨ys,x8,x9,I5,rfl,yw,rfl⟩:=hv;obtain⟨en,hen⟩: ∃en,ws[ys.length]? =some en:=⟨ws[ys.length]''o',Jb _⟩
  have eb:=wb en (Ji hen);have yle: ∀y∈ys,y.2.2.1<=f+en:=λy hy=>by
   obtain⟨j,hj,ej⟩:=List.mem_iff_getElem.mp hy;have h1:=yw j y (by rw[Jb hj,ej]);obtain⟨j1,e1⟩:=Jc.mp h1;obtain⟨j2,e2⟩:=Jc.mp hen
   have:=List.pairwise_iff_getElem.mp wo j ys.length j1 j2 hj;rw[e1,e2] at this;omega
  have aw:atI (ws.map V.int) (0+(ys.length:Int))=some (.int en):=by rw[JS];exact xf (by rw[Jh,hen];rfl)
  have w5:=SqL.of (K:=K) (I5.same _ _ e8);have sl:=kD (chs ys);rw[wg] at sl;obtain⟨pc,f0,f1,hc,ep⟩:=id hz8.1;have ep5:=SqT.of (K:=K) (I5.same _ _ ep)
  (open_k0;repeat (dsimp only[tBM];open_k0))
  refine⟨.inl ⟨'o','o'⟩,a,cs,_,rfl,I5.same.seq hS8,'o','o',cl,λx=>⟨.inl ⟨rfl,_,SqL.of I5.e1⟩,ixT ep5 (yY _ _ _) (ixL w5 aw ⟨_,rfl,_,rfl,ixL w5 aw ?_⟩)⟩⟩;refine⟨x,_,en,pa,la,ll,f,dy,c,zs,re,ys.length,_,rfl,'o',hz8.same I5.same,r0,r1,r2,eb.1,eb.2,I5.e2,'o',(wP (chs ys)).1,λp ch H6 kp6 el6 ec6 ci=> ?_⟩;intro pe H7 _ s7 e7;have ele7:=s7 _ _ (kp6 _ _ I5.ne I5.e1);refine⟨le,_,_,rfl,rfl,ele7,by rw[Ja];exact qi 'o',?_⟩;have ne1:pe≠le:=λz=>by rw[z,ele7] at e7;cases e7
  have ec7:=s7 _ _ ec6;have ne2:p≠le:=λz=>by rw[z,ele7] at ec7;cases ec7
  rw[hPw];refine⟨_,_,_,zmi I5 (pe:=pe) (p:=p) (en:=f+en) (ch:=ch) (by rw[zu ne1];exact e7) (by rw[zu ne2];exact ec7) (λb o b1 b2 e=>by rw[zu b1];exact s7 _ _ (kp6 b o b2 e)) zF (by rw[zu I5.ne.symm];exact s7 _ _ el6) 'o' 'o' yle ci,by rw[Jj];rfl,λj y h=> ?_,rfl⟩;rw[List.getElem?_append] at h;by_cases jl:j<ys.length
  ·rw[Jg jl] at h;exact yw j y h
  ·rw[Jf jl] at h;have j0:j - ys.length=0:=by
    rcases Nat.lt_or_ge (j - ys.length) 1 with z|z
    ·omega
    ·rw[List.getElem?_eq_none (by simpa using z)] at h;cases h
   rw[j0] at h;cases h;obtain rfl:j=ys.length:=by omega
   rw[hen];exact congrArg some (by show en=f+en - f;omega)
 ·rw[hPw] at hv;obtain⟨ys,x8,x9,I5,yl,yw,rfl⟩:=hv;open_k0;exact q le ys H5 (s08.trans I5.same) I5.at' I5.ok 'o' I5.e1
def znu(K:Fg):Sp:=λvs H Q _=> ∃(a:Addr) (cs:List Int),vs= [.ref a]/\SqL K H a (cs.map V.int)/\cs.length<=10000/\ ∀p pa la le (f:Int) dy c (zs:List (V×Pl)) (ys:List En) (day:Int) H',zk H H'->yG K H' pa la f dy c zs->yE K H' ys->qK (zs.map λz=>z.2.1) f (Cal.beg f dy c 60) ys->ys.length<=40->H' le=some (.lst (ys.map (·.1)))->f<=day->day<Cal.beg f dy c 60->H' p=some (.tup [.ref pa, .ref le, .int day])->Q (.ref p) H'
theorem sc_19:FnScope ["_law_script","_law_account_here","_law_head","_law_far","_law_many","_law_reach_here"] ["_law_script"] (zE s_19):=by sl_open
theorem ok_19(T:Txt w K mg t):FnOk P w K mg base (CXE P w) 7 t.a_19 t.d_19 ["_law_script"] (znu K):=by
 refine T.F_19.fn.okX sc_19 ?_ λcdv A outer s H vs Q E L hr h=> ?_
 ·kdl_open
 obtain⟨a,cs,rfl,hS,cl,q⟩:=h;have nd:=sc_19.nd;refine⟨_,(zj (psJ 1 nd (peD L.toLv (ok_15 T) hr T.F_15 (zb (pvJ 0) ze))) (zj (psJ 2 nd (zh yQ (peD L.toLv (ok_12 T) hr T.F_12 (zb (pvJ 0) (zb zc ze zC) zg)) zc)) (zj (psJ 3 nd (xt xr (zh zK (zh yQ (pvJ 2) zc) zc) zc (yu _))) (zj (psJ 4 nd (ixJ yj (zY (zb (zh zK (pvJ 2) zc) (zb zc ze zC) zM)) (xV uw (by rfl) T.no_int vN (zb (zji (xt xr (zh zK (zh yQ (pvJ 2) zc) zc) zc (yu _)) (jF (zm9 (pvJ 3)))) ze)))) (zj (psJ 5 nd (peD L.toLv (ok_16 T) hr T.F_16 (zb (pvJ 1) (zb (pvJ 3) ze zg) zg))) (zq (zD (zN (zb (pvJ 1) (zb (peD L.toLv (ok_18 T) hr T.F_18 (zb (pvJ 0) (zb (pvJ 1) (zb (pvJ 5) (zb zc (zb (pvJ 4) ze zg) zC) zg) zg) zg)) (zb (zh zO (ixJ zQ (pvJ 1) zc) (zh zK (peD L.toLv (ok_12 T) hr T.F_12 (zb (pvJ 0) (zb zc ze zC) zg)) (pvJ 5))) ze zM) yI) zg))))))))),?_⟩;open_k0;refine⟨a,cs,rfl,hS,cl,λpa la zs f dy c H1 s1 hz=> ?_⟩;refine⟨a,cs,3,rfl,s1.seq hS,'d','d',cl,λh=>⟨_,rfl,?_⟩⟩;generalize h / 2=h;obtain⟨pc,f0,f1,hc,ep⟩:=id hz.1;have b0:Cal.beg f dy c 0=f:=Cal.beg_zero f0 f1;have last: ∀(b:Bool) (m:Int) (H2:Hp),zk H1 H2->0<=m->m<=24->zh1 K [.ref pa, .bl b] H2 (λx_4 H1=>zfO K [V.ref a, .ref pa,x_4,V.int 5, .int m] H1 (λx_5 H1=>vm K (.ref pa) (V.int 1) H1 λx_6 H1=>ziQ K [V.ref a,V.int 4] H1 (λx_7 H1=> ∃i,x_7=V.int i/\ ∃x_8,x_4=V.int x_8/\0<x_8/\ ∃i_1,x_6=V.int i_1/\New H1 (HO.tup [.ref pa,x_5,V.int (i_1+i % x_8)]) Q) E) E) E:=λb m H2 s2 m0 m1=>by
  refine⟨pa,la,f,dy,c,b,rfl,hz.1.same s2,λk k0 k1 H3 s3=> ?_⟩;obtain⟨mn,rfl⟩:=Int.eq_ofNat_of_zero_le m0;have g1:=Cal.beg_lt (k:=0) (j:=k) f0 f1 hc.2 'd' 'o' 'o';have g2:=Cal.beg_le (k:=k) (j:=60) f0 f1 hc.2 'o' 'o' 'd';have g3:=Cal.beg_range (k:=k) f0 f1 hc.2 'o' 'o';rw[b0] at g1;have s03:=s2.trans s3;refine⟨a,cs,pa,la,f,dy,c,zs,_,mn,rfl,s03.seq (s1.seq hS),cl,hz.same s03,'o','o','o','o',λle ys H4 s4 ea ok yl el=> ?_⟩;have s04:=s03.trans s4;refine ixT (SqT.of (s04 _ _ ep)) (yY _ _ _) ⟨a,cs,4,rfl,s04.seq (s1.seq hS),'d','d',cl,λd=>⟨_,rfl,_,rfl,'o',_,rfl,λp H5 _ s5 e5=> ?_⟩⟩;have d0:=JN d (show Cal.beg f dy c k - f≠0 by omega);have d1:=JL d (show 0<Cal.beg f dy c k - f by omega);exact q p pa la le f dy c zs ys _ H5 ((s1.trans s04).trans s5) (hz.same (s04.trans s5)) (ea.same s5) ok yl (s5 _ _ el) 'o' 'o' e5
 have bd: ∀x∈ [h % 13,24],0<=x/\x<=24:=λx hx=>by
  simp only[JD,List.not_mem_nil,or_false] at hx;rcases hx with rfl|rfl<;>omega
 intro p2 H2 h2 s2 e2;refine y8 (λ_=>qu (xs:= [h % 13,24]) bd (by split<;>decide) (by split<;>show (_:Int)<2<;>decide) (λm H3 s3 m0 m1=>last _ m H3 s3 m0 m1) p2 H2 h2 s2 e2) (λ_=>qu (xs:= [h % 13,24]) bd 'd' (show (0:Int)<2 by decide) (λm H3 s3 m0 m1=>last _ m H3 s3 m0 m1) p2 H2 h2 s2 e2)
def znv(K:Fg)(t:Adr):Sp:=λvs H Q E=> ∃(pa le la:Addr) (f:Int) (dy:Bool) (c:Int) (zs:List (V×Pl)) (ys:List En) (Gm:Int->Int->List D) (day:Int),vs= [.ref pa, .ref le, .int day]/\yG K H pa la f dy c zs/\H le=some (.lst (ys.map (·.1)))/\EnX zs f (Cal.beg f dy c 60) K H ys/\(∀z∈ys,f<=z.2.2.1)/\(∀m,GL f dy c ys m (Gm m))/\(f<=day->day<Cal.beg f dy c 60-> ∀lr (ds:List (Int×Nat×Bool)) (ws:List (Addr×Ln)) H',WDays f dy c ys day ds->Fr H lr->ds.length<=100->Kp H H'->H' lr=some (.lst (ws.map λw=>V.ref w.1))->z7 H' ws->ws.map (·.2)=(yd (cstF f dy c zs Gm) ys ds (0,0, [])).1->Q (.ref lr) H')/\(day<f-> ∀H',zk H H'->E (.ref t.c_Z06) none H')/\(Cal.beg f dy c 60<=day-> ∀H',zk H H'->E (.ref t.c_Z0c) none H')
theorem sc_10:FnScope ["account","entries","day","lines","pots"] ["account","entries","day"] (zE s_10):=by sl_open
theorem ok_10(T:Txt w K mg t):FnOk P w K mg base (CXE P w) 14 t.a_10 t.d_10 ["account","entries","day"] (znv K t):=by
 refine T.F_10.fn.okX sc_10 ?_ λcdv A outer s H vs Q E L hr h=> ?_
 ·kdl_open
 obtain⟨pa,le,la,f,dy,c,zs,ys,Gm,day,rfl,hz,hS,hY,hy0,hG,q,q2,q3⟩:=h;have nd:=sc_10.nd;refine⟨_,(zj (yB (peD L.toLv (ok_0z T) hr T.F_0z (zb (pvJ 0) (zb (pvJ 1) (zb (pvJ 2) ze zg) zg) zg)) (zZ (n:=2) rfl (zH (zr (i:=3) nd rfl (Or.inl rfl)) (zH (zr (i:=4) nd rfl (Or.inl rfl)) yF)))) (zq (zD (pvJ 3)))),?_⟩;open_k0;refine⟨pa,le,la,f,dy,c,zs,ys,Gm,day,rfl,hz,hS,hY,hy0,hG,λd0 d1 r lr p dx d ds ws H1 wd frr dl k1 e1 _ e2 la2 lm=>⟨r,_,rfl,SqT.of e1,rfl,?_⟩,q2,q3⟩;open_k0;exact q d0 d1 lr ds ws H1 wd frr dl k1 e2 la2 lm
theorem zmj{f:Int}{zs:List En}(h:qK nms f e zs):xj (chs zs):=λi k hi=>by
 unfold chs at hi;rw[Jh] at hi;obtain⟨z,hz,e⟩:=Jk.mp hi
 have:=(h i z hz).2.2.2;rw[e,v8] at this;exact this
theorem zpP{f:Int}(yA:yE K H ys)(yO:qK (zs.map λz=>z.2.1) f e ys)(yl:ys.length<=40):EnX zs f e K H ys/\ ∀z∈ys,f<=z.2.2.1:=by
 refine⟨⟨yA,yl,yO.pair,zmj yO,EnB.of yO,λz hz' tm=> ?_⟩,λz hz'=> ?_⟩
 ·obtain⟨i,hi,ez⟩:=List.mem_iff_getElem.mp hz';have ci:=(yO i z (by rw[Jb hi,ez])).2.2.2;exact⟨λd nm h'=>by rw[h'] at ci;exact ci.2.2,λd n h'=>by rw[h'] at ci;exact ci.2.2⟩
 ·obtain⟨i,hi,ez⟩:=List.mem_iff_getElem.mp hz';exact(yO i z (by rw[Jb hi,ez])).1
theorem ziR{x y:Int}(h:x<=y)(no: ∀e∈ys,¬(x<e.2.2.1/\e.2.2.1<=y)):zV ys x=zV ys y:=by
 have e:mOf ys x=mOf ys y:=by
  unfold mOf;congr 1;refine List.filter_congr λz hz=> ?_
  have:=no z hz;unfold enL;rw[decide_eq_decide];omega
 unfold zV;rw[e]
theorem zmk{f:Int}{ds:List (Int×Nat×Bool)}{k:Nat}(f0:0<=f)(f1:f<=3500000)(hc:Cal.CycOk dy c)(hy0: ∀z∈ys,f<=z.2.2.1)(wd:WDays f dy c ys day ds)(k1:k<60)(a:Cal.beg f dy c k<=day)(b:day<Cal.beg f dy c ((k:Int)+1)):wY ys day (k+1) (f - 1) 0 ds:=by
 have b0:Cal.beg f dy c ((0:Nat):Int)=f:=Cal.beg_zero f0 f1;have fd:f<=day:=by have:=Cal.beg_ge (k:=k) f0 f1 hc 'o' 'o';omega
 have hm: ∀i j:Nat,i<j->j<=60->Cal.beg f dy c i<Cal.beg f dy c j:=λi j h1 h2=>Cal.beg_lt f0 f1 hc 'o' 'o' 'o';refine zhQ (bg:=λj:Nat=>Cal.beg f dy c j) hm 'o' (by show day<Cal.beg f dy c ((k+1:Nat):Int);exact b) (λj hj=> ?_) ds (f - 1) 0 wd.up (λt=> ?_) (λz hz=> ?_) 'o' 'o' (by show f - 1<Cal.beg f dy c ((0:Nat):Int);omega) (λj hj=>absurd hj 'o')
 ·have:=Cal.beg_le (k:=j) (j:=k) f0 f1 hc 'o' 'o' 'o';show Cal.beg f dy c j<=day;omega
 ·rw[wd.mem];refine⟨λh=>⟨?_,h⟩,λh=>h.2⟩;rcases h.2 with⟨j,j1,rfl⟩|⟨z,hz,rfl⟩
  ·have:=Cal.beg_ge (k:=j) f0 f1 hc 'o' 'o';omega
  ·have:=hy0 z hz;omega
 ·obtain⟨h1,h2,h3,h4⟩:=wd.sp z hz;exact⟨h1,h2,h3,by rw[h4];exact decide_eq_true_iff⟩
theorem zpQ(h:vC zs)(nm:List Nat):0<=(plF zs nm).1/\0<=(plF zs nm).2:=by
 unfold plF;cases e:(zs.filter λz=>decide (z.2.1=nm))[0]? with
 |none=>exact⟨Jz _,Jz _⟩
 |some z=>
  have:=h.2.2 z (List.mem_filter.mp (Ji e)).1;exact⟨this.1.1,this.2.1⟩
theorem znw(hz:vC zs){d:List D}(hd:StX zs d)(h2:b<=e)(h3:sb<se):0<=yr zs sb se b e d:=by
 obtain⟨d0,n,wd,rfl,_,n0,_⟩:=hd;unfold yr;split
 ·rename_i nm st wd' heq;split
  ·have p:=zpQ hz nm;have e1:st=n:=by injection heq with _ h;injection h with h _;injection h with h;exact h.symm
   unfold uk;have q:0<=(plF zs nm).1*st:=Int.mul_nonneg p.1 'o';have m:(plF zs nm).1*st*(b - sb)<=(plF zs nm).1*st*(e - sb):=Int.mul_le_mul_of_nonneg_left 'o' q;have c0:0<(if (plF zs nm).2=0 then se - sb else (plF zs nm).2):=by split<;>omega
   have:=Int.ediv_le_ediv c0 m;omega
  ·exact Jz _
 ·exact Jz _
theorem zjC{lh la le:Addr}{f:Int}(hz:yG K H pa la f dy c zs)(el:H le=some (.lst (ys.map (·.1))))(yA:yE K H ys)(e:H lh=some (.lst [.ref pa, .ref le])):Dp K H 4 (.lst [.tup [.lst ((zs.map λz=>plD z.2).map D.tup), .int f, .tup [.str (if dy then [100,97,121,115] else [109,111,110,116,104,115]), .int c]], .lst (ys.map enD)]) (.ref lh):=by
 obtain⟨⟨pc,_,_,hc,ep⟩,hl,hp,_⟩:=hz;have l1:all2 (Dp K H 1) [D.str (if dy then [100,97,121,115] else [109,111,110,116,104,115]),D.int c] [V.str (SL (if dy then [100,97,121,115] else [109,111,110,116,104,115])),V.int c]:=⟨qH,y6,trivial⟩
 exact xN (SqL.of e) ⟨xh (SqT.of ep) ⟨xN (SqL.of hl) hp.all2,y6,xh hc.1 l1,trivial⟩,xN (SqL.of el) yA.all2,trivial⟩
theorem zqI{f:Int}(mo:Int)(f0:0<=f)(f1:f<=3500000)(hc:Cal.CycOk dy c)(hz:vC zs)(hY:EnX zs f (Cal.beg f dy c 60) K H ys): ∃G,GL f dy c ys mo G/\ ∀o sb se b e,b<=e->sb<se->0<=yr zs sb se b e (G o):=by
 obtain⟨G,hG⟩:=zqF mo f0 f1 hc hY;obtain⟨ts0,h0⟩: ∃ts0:List Tm,ts0=(zV ys mo).map λk=>((0:Addr),(0:Addr),k,(ys.getD k.toNat (.non,0,0, .back)).2.2.2):=⟨_,rfl⟩
 have e0:ts0.map (rtT f dy c)=(zV ys mo).map (rtK f dy c ys):=by rw[h0,List.map_map];rfl
 obtain⟨_,ki⟩:=zfK (mo:=mo) hY.2.2.1 hY.2.2.2.1;have at0: ∀t∈ts0,∃z∈ys,yL z.2.2.2=true/\t.2.2.2=z.2.2.2:=λt ht=>by
  rw[h0] at ht;obtain⟨k,hk,rfl⟩:=Jw.mp ht;obtain⟨z,k0,e1,tm⟩:=ki k hk;refine⟨z,Ji e1,tm,?_⟩;show (ys.getD k.toNat (.non,0,0, .back)).2.2.2=_;rw[Jo,e1];rfl
 refine⟨λo=>open Classical in if StX zs (G o) then G o else [],λts er ts' m d o0 o1 o2 hs=> ?_,λo sb se b e h1 h2=> ?_⟩
 ·have g:=hG ts er ts' m d o0 o1 o2 hs;have mm: ∀t,t∈ts0.map (rtT f dy c)↔t∈ts'.map (rtT f dy c):=λt=>by
   rw[e0,<-er];constructor
   ·intro h;obtain⟨x,hx,rfl⟩:=Jw.mp h;exact Jw.mpr ⟨x,(m x).mpr hx,rfl⟩
   ·intro h;obtain⟨x,hx,rfl⟩:=Jw.mp h;exact Jw.mpr ⟨x,(m x).mp hx,rfl⟩
  have sx:=st_x (zs:=zs) (λt ht=>by obtain⟨z,_,h2,h3⟩:=at0 t ht;rw[h3];exact h2) (λt ht=>by obtain⟨z,h1,h2,h3⟩:=at0 t ht;rw[h3];exact hY.2.2.2.2.2 z h1 h2) (show xo f dy c ts0 d o0 o1 o2 from⟨hs.1.mem mm,hs.2.1.mem mm,hs.2.2.mem mm⟩);rw[g] at sx ⊢;exact(Jg sx).symm
 ·dsimp only;split
  ·rename_i sx;exact znw hz sx h1 h2
  ·exact Jz _
theorem zqJ{f:Int}(f0:0<=f)(f1:f<=3500000)(hc:Cal.CycOk dy c)(hz:vC zs)(hY:EnX zs f (Cal.beg f dy c 60) K H ys): ∃Gm:Int->Int->List D,(∀m,GL f dy c ys m (Gm m))/\(∀x y,zV ys x=zV ys y->Gm x=Gm y)/\ ∀m o sb se b e,b<=e->sb<se->0<=yr zs sb se b e (Gm m o):=by
 obtain⟨Gn,hn⟩: ∃Gn:List Int->Int->List D,∀L,(∀m,zV ys m=L->GL f dy c ys m (Gn L))/\ ∀o sb se b e,b<=e->sb<se->0<=yr zs sb se b e (Gn L o):=Classical.axiomOfChoice (r:=λ(L:List Int) (G:Int->List D)=>(∀m,zV ys m=L->GL f dy c ys m G)/\ ∀o sb se b e,b<=e->sb<se->0<=yr zs sb se b e (G o)) λL=>by
  by_cases h: ∃m,zV ys m=L
  ·obtain⟨m,rfl⟩:=h;obtain⟨G,hG,hn⟩:=zqI m f0 f1 hc hz hY;exact⟨G,λm' e=>λts et=>hG ts (by rw[et,e]),hn⟩
  ·exact⟨λ_=> [],λm e=>absurd ⟨m,e⟩ h,λ_ _ _ _ _ _ _=>Jz _⟩
 exact⟨λm=>Gn (zV ys m),λm=>(hn _).1 m rfl,λx y e=>by dsimp only;rw[e],λm=>(hn _).2⟩
theorem zml{f:Int}{Gm:Int->Int->List D}(f0:0<=f)(f1:f<=3500000)(hc:Cal.CycOk dy c)(nn: ∀m o sb se b e,b<=e->sb<se->0<=yr zs sb se b e (Gm m o))(m:Int){k:Int}(k0:0<=k)(k1:k<60):0<=cstF f dy c zs Gm m k:=by
 have bw:=zfE f0 f1 hc k0 k1;unfold cstF cK Sb;generalize (Cal.beg f dy c (k+1) - Cal.beg f dy c k).toNat=n;induction n with
 |zero=>exact Jz _
 |succ n ih=>exact Int.add_nonneg ih (nn _ _ _ _ _ _ 'o' bw.2.1)
theorem zmm: ∀{a b:List Int},a.Pairwise (· < ·)->b.Pairwise (· < ·)->(∀x,x∈a↔x∈b)->a=b
 | [], [],_,_,_=>rfl
 | [],y::b,_,_,h=>nomatch (h y).mpr Jq
 |x::a, [],_,_,h=>nomatch (h x).mp Jq
 |x::a,y::b,ha,hb,h=>by
  obtain⟨a1,a2⟩:=List.pairwise_cons.mp ha;obtain⟨b1,b2⟩:=List.pairwise_cons.mp hb;have e:x=y:=by
   rcases JD.mp ((h x).mp Jq) with e|e
   ·exact e
   ·rcases JD.mp ((h y).mpr Jq) with e2|e2
    ·exact e2.symm
    ·have:=b1 x e;have:=a1 y e2;omega
  subst e;rw[zmm a2 b2 λt=>⟨λht=> ?_,λht=> ?_⟩]
  ·rcases JD.mp ((h t).mp (Jl _ ht)) with e|e
   ·have:=a1 t ht;omega
   ·exact e
  ·rcases JD.mp ((h t).mpr (Jl _ ht)) with e|e
   ·have:=b1 t ht;omega
   ·exact e
theorem zmn{f:Int}{dy:Bool}{c:Int}(f0:0<=f)(f1:f<=3500000)(hc:Cal.CycOk dy c): ∀{a b:List (Int×Nat×Bool)},a.map (·.1)=b.map (·.1)->(∀z∈a,SpAt f dy c z.1 z.2.1 z.2.2)->(∀z∈b,SpAt f dy c z.1 z.2.1 z.2.2)->a=b
 | [], [],_,_,_=>rfl
 | [],_::_,h,_,_=>by cases h
 |_::_, [],h,_,_=>by cases h
 |(x,k,i)::a,(y,j,l)::b,h,ha,hb=>by
  rw[JA,JA] at h;injection h with h1 h2
  obtain rfl:x=y:=h1;obtain⟨p1,p2,p3,p4⟩:=ha _ Jq;obtain⟨q1,q2,q3,q4⟩:=hb _ Jq;dsimp only at p1 p2 p3 p4 q1 q2 q3 q4;obtain rfl:k=j:=by
   rcases Nat.lt_trichotomy k j with z|z|z
   ·have:=Cal.beg_le (k:=(k:Int)+1) (j:=j) f0 f1 hc 'o' 'o' 'o';omega
   ·exact z
   ·have:=Cal.beg_le (k:=(j:Int)+1) (j:=k) f0 f1 hc 'o' 'o' 'o';omega
  rw[p4,q4,zmn f0 f1 hc h2 (λz hz=>ha z (Jl _ hz)) (λz hz=>hb z (Jl _ hz))]
theorem zmo{f:Int}{a b:List (Int×Nat×Bool)}(f0:0<=f)(f1:f<=3500000)(hc:Cal.CycOk dy c)(ha:WDays f dy c ys day a)(hb:WDays f dy c ys day b):a=b:=
 zmn f0 f1 hc (zmm ha.up hb.up λx=>by rw[ha.mem,hb.mem]) ha.sp hb.sp
def lnD(z:Ln):D:= .tup [.int z.1, .str z.2.1, .int z.2.2.1, .int z.2.2.2.1, .int z.2.2.2.2.1, .int z.2.2.2.2.2.1, .int z.2.2.2.2.2.2]
theorem z7.dp{H:Hp}: ∀{ws:List (Addr×Ln)},z7 H ws->all2 (Dp K H 1) ((ws.map (·.2)).map lnD) (ws.map λw=>V.ref w.1)
 | [],_=>trivial
 |w::r,h=>⟨xh (SqT.of (show H w.1=some (.tup [.int w.2.1, .str (SL w.2.2.1), .int w.2.2.2.1, .int w.2.2.2.2.1, .int w.2.2.2.2.2.1, .int w.2.2.2.2.2.2.1, .int w.2.2.2.2.2.2.2]) from h w Jq)) ⟨y6,qH,y6,y6,y6,y6,y6,trivial⟩,z7.dp λx hx=>h x (Jl _ hx)⟩
def kvP(g o:Int)(d:Addr):List (Key×V):= [(Sum.inr (SL [103,105,118,101,110]), .int g),(Sum.inr (SL [111,119,110]), .int o),(Sum.inr (SL [116,111,111,107]), .ref d)]
theorem zmp(g o x:Int)(d:Addr):yk (kvP g o d) (Sum.inr (SL [103,105,118,101,110])) (.int x)=kvP x o d:=rfl
theorem zmq(g o x:Int)(d:Addr):yk (kvP g o d) (Sum.inr (SL [111,119,110])) (.int x)=kvP g x d:=rfl
theorem vE(g o:Int)(d:Addr):(kvP g o d).length<sizeLine:=by rw[sizeLine_eq];exact(by decide:3<16777216)
theorem kmP(g o:Int)(d:Addr):vq [] (kvP g o d)=kvP g o d:=rfl
def Kn(K:Fg)(H:Hp)(kd td:Addr)(s:Pt):Prop:=H kd=some (.dK (kvP s.1 s.2.1 td))/\kd≠td/\ ∃kvs,H td=some (.dK kvs)/\Rows K H s.2.2 kvs
theorem Kn.same(h:Kn K H kd td s)(sm:zk H H'):Kn K H' kd td s:=by
 obtain⟨h1,n,kvs,h2,h3⟩:=h;exact⟨sm _ _ h1,n,kvs,sm _ _ h2,h3.keep (zT.of_same sm)⟩
theorem Kn.put{H:Hp}{kd td:Addr}{s:Pt}(h:Kn K H kd td s)(g o:Int):Kn K (upd H kd (.dK (kvP g o td))) kd td (g,o,s.2.2)/\Kp H (upd H kd (.dK (kvP g o td))):=by
 obtain⟨h1,n,kvs,h2,h3⟩:=h;exact⟨⟨zF,n,kvs,by rw[zu n.symm];exact h2,h3.keep (zT.dict h1 _)⟩,(Kp.of_same (zk.refl H)).put λu e=>by rw[h1] at e;cases e;exact .inr ⟨_,rfl⟩⟩
theorem Kn.tab{k:Int}(h:Kn K H kd td s)(ht:H td=some (.dK kvs))(hr:Rows K H s.2.2 kvs)(hq:H q=some (.tup [.int g, .int m])):Kn K (upd H td (.dK (yk kvs (Sum.inl k) (.ref q)))) kd td (s.1,s.2.1,yJ s.2.2 k (g,m))/\Kp H (upd H td (.dK (yk kvs (Sum.inl k) (.ref q)))):=by
 have kt:=zT.dict (K:=K) ht (.dK (yk kvs (Sum.inl k) (.ref q)));exact⟨⟨by rw[zu h.2.1];exact h.1,h.2.1,_,zF,(hr.keep kt).put (kt _ _ hq)⟩,(Kp.of_same (zk.refl H)).put λu e=>by rw[ht] at e;cases e;exact .inr ⟨_,rfl⟩⟩
theorem Rows.took{H3:Hp}{T:Tab}{z0:Addr}(r:Rows K H T kvs)(k:Int)(s:zk H H3)(e:H3 z0=some (.tup [.int 0, .int 0])): ∃pt,(y9 kvs (Sum.inl k)).getD (.ref z0)= .ref pt/\H3 pt=some (.tup [.int (zt T k).1, .int (zt T k).2]):=by
 rcases r.val k with⟨g,et⟩|⟨pt,g,hs⟩
 ·exact⟨z0,by rw[g];rfl,by rw[et];exact e⟩
 ·exact⟨pt,by rw[g];rfl,s _ _ hs⟩
theorem Kn.app{ys:List V}(h:Kn K H kd td s)(e:H l=some (.lst xs)):Kn K (upd H l (.lst ys)) kd td s:=by
 obtain⟨h1,n,kvs,h2,h3⟩:=h;refine⟨by rw[zu (λz=>by rw[z,e] at h1;cases h1)];exact h1,n,kvs,by rw[zu (λz=>by rw[z,e] at h2;cases h2)];exact h2,h3.keep λq zs g=> ?_⟩;rw[zu (λz=>by rw[z,e] at g;cases g)];exact g
theorem zqK(S:Pt)(day k st:Int): [V.int day, .str (SL [114,105,103,104,116]), .int k, .int st]++ [.int (gvY S k (0 - st) - (0 - st)), .int (0 - gvY S k (0 - st)), .int 0]=LnV (qY S day k (-st)):=by
 rw[Int.zero_sub];unfold LnV qY;rw[show - -st=st by omega,show -(-st - gvY S k (-st))=gvY S k (-st) - -st by omega,Int.zero_sub];rfl
def znx(K:Fg):Sp:=λvs H Q _=> ∃(kd td:Addr) (s:Pt) (k a:Int),vs= [.ref kd, .int k, .int a]/\Kn K H kd td s/\s.2.2.length<=500/\ ∀r H',Kp H H'->Kn K H' kd td (yK s k a)->H' r=some (.tup [.int (tkX s a), .int (tkY s a), .int (a - tkX s a - tkY s a)])->Q (.ref r) H'
theorem sc_1a:FnScope ["_law_known","_law_k","_law_amount","_law_given","_law_own","_law_one","_law_other"] ["_law_known","_law_k","_law_amount"] (zE s_1a):=by sl_open
theorem ok_1a(T:Txt w K mg t):FnOk P w K mg base (CXE P w) 1 t.a_1a t.d_1a ["_law_known","_law_k","_law_amount"] (znx K):=by
 refine T.F_1a.fn.okX sc_1a ?_ λcdv A outer s H vs Q E L hr h=> ?_
 ·kdl_open
 obtain⟨kd,td,s0,k,a,rfl,hk,hl,q⟩:=h;have nd:=sc_1a.nd;refine⟨_,(zj (psJ 3 nd (ye (xu (by rfl)) (by rfl) T.no_min xA (zb (pvJ 2) (zb (qI (yn hr) (pvJ 0) (zI st_24) (λ_ _=>rfl)) ze yf) zg))) (zj (psJ 4 nd (ye (xu (by rfl)) (by rfl) T.no_min xA (zb (zh zX (pvJ 2) (pvJ 3)) (zb (qI (yn hr) (pvJ 0) (zI st_25) (λ_ _=>rfl)) ze yf) zM))) (zj (xi (yn hr) (pvJ 0) (zI st_24) (zh zX (qI (yn hr) (pvJ 0) (zI st_24) (λ_ _=>rfl)) (pvJ 3)) rfl) (zj (xi (yn hr) (pvJ 0) (zI st_25) (zh zX (qI (yn hr) (pvJ 0) (zI st_25) (λ_ _=>rfl)) (pvJ 4)) rfl) (zj (yB (uN (yn hr) (qI (yn hr) (pvJ 0) (zI st_26) (λ_ _=>rfl)) (pvJ 1) (zN (zb zc (zb zc ze zC) zC)) ⟨by rfl,by rfl,by rfl,by rfl⟩) (zZ (n:=2) rfl (zH (zr (i:=5) nd rfl (Or.inl rfl)) (zH (zr (i:=6) nd rfl (Or.inl rfl)) yF)))) (zj (xi (yn hr) (qI (yn hr) (pvJ 0) (zI st_26) (λ_ _=>rfl)) (pvJ 1) (zN (zb (zh zO (pvJ 5) (pvJ 3)) (zb (zh zX (zh zO (pvJ 6) (pvJ 2)) (pvJ 3)) ze zM) zM)) rfl) (zq (zD (zN (zb (pvJ 3) (zb (pvJ 4) (zb (zh zX (zh zX (pvJ 2) (pvJ 3)) (pvJ 4)) ze zM) zg) zg)))))))))),?_⟩;open_k0;obtain⟨k1,kn,kvs,ht,hr0⟩:=id hk;refine⟨_,yo.k (k:=Sum.inr (SL [103,105,118,101,110])) k1,_,rfl,_,yo.k (k:=Sum.inr (SL [111,119,110])) k1,_,rfl,_,yo.k (k:=Sum.inr (SL [103,105,118,101,110])) k1,_,rfl,_,qk.k (k:=Sum.inr (SL [103,105,118,101,110])) k1 (vE ..),?_⟩;rw[zmp,show (if s0.1<a then s0.1 else a)=tkX s0 a from rfl];obtain⟨K1,b1⟩:=hk.put (s0.1 - tkX s0 a) s0.2.1;refine⟨_,yo.k (k:=Sum.inr (SL [111,119,110])) K1.1,_,rfl,_,qk.k (k:=Sum.inr (SL [111,119,110])) K1.1 (vE ..),?_⟩;rw[zmq,show (if s0.2.1<a - tkX s0 a then s0.2.1 else a - tkX s0 a)=tkY s0 a from rfl];obtain⟨K2,b2⟩:=K1.put (s0.1 - tkX s0 a) (s0.2.1 - tkY s0 a);have b02:=b1.trans b2;dsimp only;generalize upd (upd H kd (.dK (kvP (s0.1 - tkX s0 a) s0.2.1 td))) kd (.dK (kvP (s0.1 - tkX s0 a) (s0.2.1 - tkY s0 a) td))=H2 at K2 b2 b02 ⊢;obtain⟨k2,_,kv2,t2,r2⟩:=id K2;refine⟨_,yo.k (k:=Sum.inr (SL [116,111,111,107])) k2,td,rfl, .inl ⟨_,Rd.of t2⟩,λz0 H3 _ s3 e3=>⟨_,yo.k (k:=Sum.inl k) (s3 _ _ t2),?_⟩⟩;obtain⟨pt,hpt,ept⟩:=r2.took k s3 e3;rw[hpt];refine⟨pt,_,rfl,SqT.of ept,rfl,?_⟩;open_k0;intro q1 H4 _ s4 e4;have K4:=K2.same (s3.trans s4);have t4:=(s3.trans s4) _ _ t2;have r4:=r2.keep (zT.of_same (K:=K) (s3.trans s4));refine⟨_,yo.k (k:=Sum.inr (SL [116,111,111,107])) K4.1,td,rfl,_,qk.k (k:=Sum.inl k) t4 (qi (by rw[r4.len];show s0.2.2.length<=1000;omega)),?_⟩;obtain⟨K5,b5⟩:=K4.tab (k:=k) t4 r4 e4;intro r5 H6 _ s6 e6;exact q r5 H6 ((b02.trans (Kp.of_same (s3.trans s4))).trans (b5.trans (Kp.of_same s6))) (K5.same s6) e6
def zny(K:Fg):Sp:=λvs H Q _=> ∃(kd td:Addr) (s:Pt) (k a:Int),vs= [.ref kd, .int k, .int a]/\Kn K H kd td s/\s.2.2.length<=500/\ ∀r H',Kp H H'->Kn K H' kd td (qN s k a)->H' r=some (.tup [.int (gvY s k a - a), .int (0 - gvY s k a), .int 0])->Q (.ref r) H'
theorem sc_1b:FnScope ["_law_known","_law_k","_law_amount","_law_one","_law_other","_law_own"] ["_law_known","_law_k","_law_amount"] (zE s_1b):=by sl_open
theorem ok_1b(T:Txt w K mg t):FnOk P w K mg base (CXE P w) 1 t.a_1b t.d_1b ["_law_known","_law_k","_law_amount"] (zny K):=by
 refine T.F_1b.fn.okX sc_1b ?_ λcdv A outer s H vs Q E L hr h=> ?_
 ·kdl_open
 obtain⟨kd,td,s0,k,a,rfl,hk,hl,q⟩:=h;have nd:=sc_1b.nd;refine⟨_,(zj (yB (uN (yn hr) (qI (yn hr) (pvJ 0) (zI st_26) (λ_ _=>rfl)) (pvJ 1) (zN (zb zc (zb zc ze zC) zC)) ⟨by rfl,by rfl,by rfl,by rfl⟩) (zZ (n:=2) rfl (zH (zr (i:=3) nd rfl (Or.inl rfl)) (zH (zr (i:=4) nd rfl (Or.inl rfl)) yF)))) (zj (psJ 5 nd (ye (xu (by rfl)) (by rfl) T.no_min xA (zb (pvJ 2) (zb (pvJ 4) ze zg) zg))) (zj (xi (yn hr) (qI (yn hr) (pvJ 0) (zI st_26) (λ_ _=>rfl)) (pvJ 1) (zN (zb (zh zO (zh zX (pvJ 3) (pvJ 2)) (pvJ 5)) (zb (zh zX (pvJ 4) (pvJ 5)) ze zM) zM)) rfl) (zj (xi (yn hr) (pvJ 0) (zI st_24) (zh zX (zh zO (qI (yn hr) (pvJ 0) (zI st_24) (λ_ _=>rfl)) (pvJ 2)) (pvJ 5)) rfl) (zj (xi (yn hr) (pvJ 0) (zI st_25) (zh zO (qI (yn hr) (pvJ 0) (zI st_25) (λ_ _=>rfl)) (pvJ 5)) rfl) (zq (zD (zN (zb (zh zX (pvJ 5) (pvJ 2)) (zb (zh zX zc (pvJ 5)) (zb zc ze zC) zM) zM))))))))),?_⟩;open_k0;obtain⟨k1,kn,kvs,ht,hr0⟩:=id hk;refine⟨_,yo.k (k:=Sum.inr (SL [116,111,111,107])) k1,td,rfl, .inl ⟨_,Rd.of ht⟩,λz0 H3 _ s3 e3=>⟨_,yo.k (k:=Sum.inl k) (s3 _ _ ht),?_⟩⟩;obtain⟨pt,hpt,ept⟩:=hr0.took k s3 e3;rw[hpt];refine⟨pt,_,rfl,SqT.of ept,rfl,?_⟩;open_k0;rw[show (if (zt s0.2.2 k).2<a then (zt s0.2.2 k).2 else a)=gvY s0 k a from rfl];intro q1 H4 _ s4 e4;have s34:=s3.trans s4;have K4:=hk.same s34;have t4:=s34 _ _ ht;have r4:=hr0.keep (zT.of_same (K:=K) s34);refine⟨_,yo.k (k:=Sum.inr (SL [116,111,111,107])) K4.1,td,rfl,_,qk.k (k:=Sum.inl k) t4 (qi (by rw[r4.len];show s0.2.2.length<=1000;omega)),?_⟩;obtain⟨K5,b5⟩:=K4.tab (k:=k) t4 r4 e4;generalize upd H4 td _=H5 at K5 b5 ⊢;refine⟨_,yo.k (k:=Sum.inr (SL [103,105,118,101,110])) K5.1,_,rfl,_,qk.k (k:=Sum.inr (SL [103,105,118,101,110])) K5.1 (vE ..),?_⟩;rw[zmp];obtain⟨K6,b6⟩:=K5.put (s0.1+a - gvY s0 k a) s0.2.1;refine⟨_,yo.k (k:=Sum.inr (SL [111,119,110])) K6.1,_,rfl,_,qk.k (k:=Sum.inr (SL [111,119,110])) K6.1 (vE ..),?_⟩;rw[zmq];obtain⟨K7,b7⟩:=K6.put (s0.1+a - gvY s0 k a) (s0.2.1+gvY s0 k a);intro r5 H8 _ s8 e8;refine q r5 H8 (((Kp.of_same s34).trans b5).trans ((b6.trans b7).trans (Kp.of_same s8))) ?_ e8;have K8:=K7.same s8;have e:qN s0 k a=(s0.1+a - gvY s0 k a,s0.2.1+gvY s0 k a,yJ s0.2.2 k ((zt s0.2.2 k).1 - a+gvY s0 k a,(zt s0.2.2 k).2 - gvY s0 k a)):=by
  unfold qN;rw[show s0.1+(a - gvY s0 k a)=s0.1+a - gvY s0 k a by omega,show (zt s0.2.2 k).1 - (a - gvY s0 k a)=(zt s0.2.2 k).1 - a+gvY s0 k a by omega]
 rw[e];exact K8
theorem jA:7<=sizeLine:=by rw[sizeLine_eq];decide
theorem zh3{a l:Addr}{H1:Hp}{ys:List V}{σ0:St}{g:TG}{tc:TT}{te:TE}{Q:VK}(Pv:Nat->List V->Hp->Prop)(hz:ys.length<sizeLine)
  (h0:Pv 0 [] (upd H1 l (.lst []))) (hq: ∀i xs H,Pv i xs H->SqL K H a ys/\H l=some (.lst xs))
  (hs: ∀i x xs H (K1:VK) (K0:Hp->Prop),ys[i]? =some x->Pv i xs H->(∀v H4,H4 l=some (.lst xs)->Pv (i+1) (xs++ [v]) (upd H4 l (.lst (xs++ [v])))->K1 v H4)->(∀H3,Pv (i+1) xs H3->K0 H3)->
   g x σ0 H λσ2 H2=>Sub σ0 σ2/\tc σ2 H2 λb H3=>if b=true then te σ2 H3 K1 else K0 H3)
  (hd: ∀xs H,Pv ys.length xs H->Q (.ref l) H):vT (Itl K a) σ0 g tc te l Q H1:=by
 refine⟨λi m xs H=>i<=ys.length/\m=ys.length - i/\xs.length<=i/\Pv i xs H,⟨ys.length,Jv _,'o',Je _,h0⟩,?_⟩;rintro i m xs H ⟨hi,rfl,hx,pv⟩;obtain⟨sq,e⟩:=hq i xs H pv;refine⟨e,Nat.lt_of_le_of_lt hx 'o',?_⟩;by_cases hlt:i<ys.length
 ·refine .inr ⟨⟨ys,ys[i],sq,Jb hlt⟩,λx H' ⟨e',y⟩=> ?_⟩;subst e';exact hs i x xs _ _ _ (y ys sq) pv (λv H4 e4 p4=>⟨e4,ys.length - (i+1),'o',hlt,rfl,by rw[Jj];exact Nat.succ_le_succ hx,p4⟩) (λH3 p3=>⟨ys.length - (i+1),'o',hlt,rfl,'o',p3⟩)
 ·obtain rfl:i=ys.length:=by omega
  exact .inl ⟨⟨ys,sq,Je _⟩,hd xs H pv⟩
def zmr(K:Fg):Sp:=λvs H Q _=> ∃(kd td pa rt la:Addr) (f:Int) (dy:Bool) (c:Int) (zs:List (V×Pl)) (ts:List Tm) (G:Int->List D) (s:Pt) (day:Int) (n:Nat),vs= [.ref kd, .ref pa, .ref rt, .int day, .int n]/\Kn K H kd td s/\yG K H pa la f dy c zs/\xT K H rt f (Cal.beg f dy c 60) ts/\(∀t∈ts,TmX zs t.2.2.2)/\ju f dy c ts G/\n<=60/\s.2.2.length<=100/\ ∀r (ws:List (Addr×Ln)) H',Kp H H'->Kn K H' kd td (yi day ((List.range n).map λi:Nat=>cK f dy c zs G i) s).2->H' r=some (.lst (ws.map λw=>V.ref w.1))->z7 H' ws->ws.map (·.2)=(yi day ((List.range n).map λi:Nat=>cK f dy c zs G i) s).1->Q (.ref r) H'
theorem sc_1c:FnScope ["_law_known","_law_account_here","_law_terms","_law_day_here","_law_begun","_law_steps","_law_found"] ["_law_known","_law_account_here","_law_terms","_law_day_here","_law_begun"] (zE s_1c):=by sl_open
theorem ok_1c(T:Txt w K mg t):FnOk P w K mg base (CXE P w) 12 t.a_1c t.d_1c ["_law_known","_law_account_here","_law_terms","_law_day_here","_law_begun"] (zmr K):=by
 refine T.F_1c.fn.okX sc_1c ?_ λcdv A outer s H vs Q E L hr h=> ?_
 ·kdl_open
 obtain⟨kd,td,pa,rt,la,f,dy,c,zs,ts,G,s0,day,n,rfl,hk,hz,hT,hx,hG,n60,t100,q⟩:=h;have nd:=sc_1c.nd;refine⟨_,(zj (vo (i:=5) nd rfl rfl (n:=1) (N:= ["_law_k","_law_account_here","_law_terms","_law_known"]) (js:= [1,2,0]) (by rfl) rfl rfl (xJ (by rfl) T.no_range (zb (pvJ 4) ze)) (λa=>(zr (i:=0) (show List.Nodup (["_law_k","_law_account_here","_law_terms","_law_known"]:List Str) from by decide+kernel) rfl (Or.inl rfl))) (λa=>xL) (λa=>(zN (zb (pvJ 0) (zb (zh zX (peD wL (ok_0m T) hr T.F_0m (zb (pvJ 1) (zb (pvJ 2) (zb (pvJ 0) ze zg) zg) zg)) (ye (zgg (by rfl)) (by rfl) T.no_sum j3 (zb (uN (yn hr) (qI (yn hr) (pvJ 3) (zI st_26) (λ_ _=>rfl)) (pvJ 0) (zN (zb zc (zb zc ze zC) zC)) ⟨by rfl,by rfl,by rfl,by rfl⟩) ze))) ze zM) zg)))) (zj (vo (i:=6) nd rfl rfl (n:=2) (N:= ["_law_k","_law_step","_law_day_here","_law_known"]) (js:= [3,0]) (by rfl) rfl rfl (qo (pvJ 5)) (λa=>(zZ (n:=2) rfl (yt (zr (i:=0) (show List.Nodup (["_law_k","_law_step","_law_day_here","_law_known"]:List Str) from by decide+kernel) rfl (Or.inl rfl)) (yt (zr (i:=1) (show List.Nodup (["_law_k","_law_step","_law_day_here","_law_known"]:List Str) from by decide+kernel) rfl (Or.inl rfl)) qT)))) (λa=>(wN (ql zlC (pvJ 1) zc (yu _)))) (λa=>(zh uB (zN (zb (pvJ 2) (zb (zI st_15) (zb (pvJ 0) (zb (pvJ 1) ze zg) zg) zC) zg)) (peD wL (ok_1b T) hr T.F_1b (zb (pvJ 3) (zb (pvJ 0) (zb (zh zX zc (pvJ 1)) ze zM) zg) zg))))) (zq (zD (zh vW (pvJ 6) (xB (n:=2) (N:= ["_law_k","_law_step","_law_day_here","_law_known"]) (js:= [3,0]) (by rfl) rfl rfl (qo (pvJ 5)) (λa=>(zZ (n:=2) rfl (yt (zr (i:=0) (show List.Nodup (["_law_k","_law_step","_law_day_here","_law_known"]:List Str) from by decide+kernel) rfl (Or.inl rfl)) (yt (zr (i:=1) (show List.Nodup (["_law_k","_law_step","_law_day_here","_law_known"]:List Str) from by decide+kernel) rfl (Or.inl rfl)) qT)))) (λa=>(wN (ql zlE (pvJ 1) zc (yu _)))) (λa=>(zh uB (zN (zb (pvJ 2) (zb (zI st_15) (zb (pvJ 0) (zb (pvJ 1) ze zg) zg) zC) zg)) (peD wL (ok_1a T) hr T.F_1a (zb (pvJ 3) (zb (pvJ 0) (zb (pvJ 1) ze zg) zg) zg)))))))))),?_⟩
 (open_k0;repeat (dsimp only[qG,qb];open_k0))
 refine⟨'o','o',λl1 hl1 aa=> ?_⟩;rw[JF];obtain⟨cs,hcs⟩: ∃cs,cs=(List.range n).map λi:Nat=>cK f dy c zs G i:=⟨_,rfl⟩
 rw[<-hcs] at q;have cl:cs.length=n:=by rw[hcs,Ja,JI]
 obtain⟨Dt,hDt⟩: ∃Dt:Nat->List V->Hp->Prop,Dt=λj xs H2=> ∃ds:List (Addr×Int×Int),xs=ds.map (λd=>V.ref d.1)/\(∀d∈ds,H2 d.1=some (.tup [.int d.2.1, .int d.2.2]))/\ds.map (·.2)=(zU s0 cs).take j:=⟨_,rfl⟩
 refine qQ Dt (uE 0 _ H) hl1 (by rw[qz];exact qj 'o') (λH2 _=>by rw[hDt];exact⟨[],rfl,(λ_ h=>nomatch h),rfl⟩) (λj y xs H2 K1 K0 hxx sm pv hl kk k0'=> ?_) (λxs H2 s2 pv _ w2=> ?_)
 ·have hj:=(Jc.mp hxx).1;rw[qz] at hj;rw[vU hj] at hxx;cases hxx;rw[hDt] at pv kk;obtain⟨ds,rfl,hds,ed⟩:=pv;open_k0;refine⟨pa,rt,la,f,dy,c,zs,ts,G,_,rfl,hz.same sm,hT.same sm,hx,hG,λ_ _ H3 s3=> ?_,λz=>absurd z 'o',λz=>absurd z 'o'⟩;obtain⟨k3,_,kvs,t3,r3⟩:=(hk.same sm).same s3;refine⟨_,yo.k (k:=Sum.inr (SL [116,111,111,107])) k3,td,rfl, .inl ⟨_,Rd.of t3⟩,λz0 H4 _ s4 e4=>⟨_,yo.k (k:=Sum.inl (0+(j:Int))) (s4 _ _ t3),?_⟩⟩;obtain⟨pt,hpt,ept⟩:=r3.took (0+(j:Int)) s4 e4;rw[hpt];refine⟨pt,rfl, [_,_],SqT.of ept,_,rfl,λr5 H5 hr5 s5 e5=>kk _ _ ((s3.trans s4).trans s5) λH6 k6=> ?_⟩;have s25:=(s3.trans s4).trans s5;have nl: ∀b xs',H5 b=some (.tup xs')->H6 b=some (.tup xs'):=λb xs' e=>k6 b _ (λz=>by rw[z,s25 _ _ hl] at e;cases e) e;have cj:cs[j]? =some (cK f dy c zs G j):=by rw[hcs,Jh,List.getElem?_range hj];rfl
  refine⟨ds++ [(r5,(j:Int),cK f dy c zs G j - ((zt s0.2.2 j).1+(zt s0.2.2 j).2))],by rw[Jd];rfl,λd hd=> ?_,by rw[Jd,ed,JH,jp cj];rfl⟩;rcases Jr.mp hd with h|h
  ·exact nl _ _ (s25 _ _ (hds d h))
  ·rw[Jm.mp h];refine nl _ _ ?_;rw[e5,JS];show some (HO.tup [_, .int (_ - (_+(_+0)))])=_;rw[JJ];rfl
 rw[qz] at pv;rw[hDt] at pv;obtain⟨ds,rfl,hds,ed⟩:=pv;rw[<-cl,<-wC s0 cs,JC] at ed
 (open_k0;repeat (dsimp only[qG,yH];open_k0))
 refine⟨⟨_,SqL.of w2⟩,λl2 hl2 aa2=> ?_⟩;have k2:=Kp.of_same s2;have K2:=hk.same s2;clear hDt;have dl:=wC s0 cs;have eF:yi day cs s0=((zJ day (zU s0 cs) s0).1++(zL day (zU s0 cs) (zJ day (zU s0 cs) s0).2).1,(zL day (zU s0 cs) (zJ day (zU s0 cs) s0).2).2):=rfl;rw[eF] at q;clear eF;generalize zU s0 cs=Ds at ed dl q;have dsl:ds.length=n:=by rw[<-cl,<-dl,<-ed,Ja]
 have at_: ∀(i:Nat) x,(ds.map λd=>V.ref d.1)[i]? =some x-> ∃d,x= .ref d.1/\d∈ds/\Ds[i]? =some d.2/\i<n:=λi x h=>by
  rw[Jh] at h;obtain⟨d,hd,rfl⟩:=Jk.mp h;exact⟨d,rfl,Ji hd,by rw[<-ed,Jh,hd];rfl,by rw[<-dsl];exact(Jc.mp hd).1⟩
 obtain⟨Pv,hPv⟩: ∃Pv:Nat->List V->Hp->Prop,Pv=λi xs H3=> ∃ws:List (Addr×Ln),Kp H2 H3/\Kn K H3 kd td (zJ day (Ds.take i) s0).2/\xs=ws.map (λw=>V.ref w.1)/\z7 H3 ws/\ws.map (·.2)=(zJ day (Ds.take i) s0).1/\H3 l2=some (.lst xs):=⟨_,rfl⟩
 have fr2:Fr H2 l2:=λu e=>by rw[hl2] at e;cases e
 refine zh3 (ys:=ds.map λd=>V.ref d.1) Pv (by rw[Ja];exact qj 'o') (by rw[hPv];exact⟨[],Kp.of_same (yP hl2 _),K2.same (yP hl2 _),rfl,(λ_ h=>nomatch h),rfl,zF⟩) (λi xs H3 h=>by rw[hPv] at h;obtain⟨ws,k3,_,_,_,_,e⟩:=h;exact⟨SqL.of (k3.lst w2),e⟩) (λi x xs H3 K1 K0 hxx h kk k0'=> ?_) (λxs H3 h=> ?_)
 ·obtain⟨d,rfl,hd,hdi,hin⟩:=at_ i x hxx;rw[hPv] at h kk k0';obtain⟨ws,k3,K3,rfl,la3,lm3,e3⟩:=h;have nx:=zgn (day:=day) (s:=s0) hdi;have ln:=wD day (Ds.take i) s0;rw[JB] at ln;refine⟨d.1,_,rfl,SqT.of (k3.tup (hds d hd)),rfl,?_⟩;open_k0;by_cases g:d.2.2<0
  ·rw[Jg g] at nx ⊢;intro p4 H4 _ s4 e4;refine⟨kd,td,_,_,_,rfl,K3.same s4,'o',λr5 H5 k5 K5 e5=> ?_⟩;have k45:=(Kp.of_same s4).trans k5;refine⟨p4,r5,_,_,rfl,rfl,SqT.of (k5.tup e4),SqT.of e5,by simp,jA,(λh=>nomatch h),λ_ p hp=> ?_⟩;rw[zqK];have s6:=yP hp (.tup (LnV (qY (zJ day (Ds.take i) s0).2 day d.2.1 (-d.2.2))));have e6:(upd H5 p (.tup (LnV (qY (zJ day (Ds.take i) s0).2 day d.2.1 (-d.2.2))))) p=some _:=zF;have k46:=k45.trans (Kp.of_same s6);have K6:=K5.same s6;generalize upd H5 p _=H6 at s6 e6 k46 K6 ⊢;have e36:=k46.lst e3;obtain⟨a1,a2,a3⟩:=xU (k3.trans k46) fr2 e36 (la3.keep k46) e6;refine kk _ _ e36 ⟨_,a1,?_,?_,a3,?_,?_⟩
   ·rw[nx,<-Int.zero_sub];exact K6.app e36
   ·rw[Jd];rfl
   ·rw[Jd,lm3,nx];rfl
   ·exact zF
  ·rw[Jf g] at nx ⊢;exact k0' _ ⟨ws,k3,by rw[nx];exact K3,rfl,la3,by rw[nx];exact lm3,e3⟩
 rw[hPv] at h;obtain⟨ws,k3,K3,rfl,la3,lm3,e3⟩:=h;clear hPv;rw[Ja,dsl,<-cl,<-dl,JC] at K3 lm3;have ln3:=wD day Ds s0;generalize zJ day Ds s0=LS at K3 lm3 ln3 q;obtain⟨L1,S1⟩:=LS;refine⟨⟨_,SqL.of (k3.lst w2)⟩,λl4 hl4 aa4=> ?_⟩;have fr4:Fr H3 l4:=λu e=>by rw[hl4] at e;cases e
 obtain⟨Pw,hPw⟩: ∃Pw:Nat->List V->Hp->Prop,Pw=λi xs H4=> ∃vs:List (Addr×Ln),Kp H3 H4/\Kn K H4 kd td (zL day (Ds.take i) S1).2/\xs=vs.map (λw=>V.ref w.1)/\z7 H4 vs/\vs.map (·.2)=(zL day (Ds.take i) S1).1/\H4 l4=some (.lst xs):=⟨_,rfl⟩
 refine zh3 (ys:=ds.map λd=>V.ref d.1) Pw (by rw[Ja];exact qj 'o') (by rw[hPw];exact⟨[],Kp.of_same (yP hl4 _),K3.same (yP hl4 _),rfl,(λ_ h=>nomatch h),rfl,zF⟩) (λi xs H4 h=>by rw[hPw] at h;obtain⟨ws,k4,_,_,_,_,e⟩:=h;exact⟨SqL.of (k4.lst (k3.lst w2)),e⟩) (λi x xs H4 K1 K0 hxx h kk k0'=> ?_) (λxs H4 h=> ?_)
 ·obtain⟨d,rfl,hd,hdi,hin⟩:=at_ i x hxx;rw[hPw] at h kk k0';obtain⟨vs,k4,K4,rfl,la4,lm4,e4⟩:=h;have nx:=zgo (day:=day) (s:=S1) hdi;have ln:=wV day (Ds.take i) S1;rw[JB] at ln;have l2':S1.2.2.length<=s0.2.2.length+Ds.length:=ln3.1;refine⟨d.1,_,rfl,SqT.of (k4.tup (k3.tup (hds d hd))),rfl,?_⟩;open_k0;by_cases g:0<d.2.2
  ·rw[Jg g] at nx ⊢;intro p5 H5 _ s5 e5;refine⟨kd,td,_,_,_,rfl,K4.same s5,'o',λr6 H6 k6 K6 e6=> ?_⟩;have k56:=(Kp.of_same s5).trans k6;refine⟨p5,r6,_,_,rfl,rfl,SqT.of (k6.tup e5),SqT.of e6,by simp,jA,(λh=>nomatch h),λ_ p hp=> ?_⟩;have s7:=yP hp (.tup (LnV (yv (zL day (Ds.take i) S1).2 day qM d.2.1 d.2.2)));have e7:(upd H6 p (.tup (LnV (yv (zL day (Ds.take i) S1).2 day qM d.2.1 d.2.2)))) p=some _:=zF;have k57:=k56.trans (Kp.of_same s7);have K7:=K6.same s7;refine(show K1 (.ref p) (upd H6 p (.tup (LnV (yv (zL day (Ds.take i) S1).2 day qM d.2.1 d.2.2)))) from ?_);generalize upd H6 p _=H7 at s7 e7 k57 K7 ⊢;have e47:=k57.lst e4;obtain⟨a1,a2,a3⟩:=xU (k4.trans k57) fr4 e47 (la4.keep k57) e7;refine kk _ _ e47 ⟨_,a1,?_,?_,a3,?_,?_⟩
   ·rw[nx];exact K7.app e47
   ·rw[Jd];rfl
   ·rw[Jd,lm4,nx];rfl
   ·exact zF
  ·rw[Jf g] at nx ⊢;exact k0' _ ⟨vs,k4,by rw[nx];exact K4,rfl,la4,by rw[nx];exact lm4,e4⟩
 rw[hPw] at h;obtain⟨vs,k4,K4,rfl,la4,lm4,e4⟩:=h;rw[Ja,dsl,<-cl,<-dl,JC] at K4 lm4;have ln4:=wV day Ds S1;have wl:=congrArg List.length lm3;have vl:=congrArg List.length lm4;rw[Ja] at wl vl;have l1':L1.length<=Ds.length:=ln3.2;have wl':ws.length=L1.length:=wl;refine⟨l2,l4,_,_,rfl,rfl,k4.lst e3,e4,qB (by rw[Ja,Ja];omega),λl5 H5 _ s5 e5=> ?_⟩;have k25:=k4.trans (Kp.of_same s5);refine q l5 (ws++vs) H5 (k2.trans (k3.trans k25)) (K4.same s5) (by rw[Jd];exact e5) (λw hw=> ?_) (by rw[Jd,lm3,lm4]);rcases Jr.mp hw with h|h
 ·exact la3.keep k25 w h
 ·exact la4.keep (Kp.of_same s5) w h
theorem zgy(day:Int): ∀(ps:List (Int×Int)) (s:Pt),(∀z∈ps,z.2=0)->zJ day ps s=([],s)
 | [],_,_=>rfl
 |z::r,s,h=>by
  rw[zJ,Jf (by rw[h z Jq];decide)];exact zgy day r s λx hx=>h x (Jl _ hx)
theorem zgz(day:Int): ∀(ps:List (Int×Int)) (s:Pt),(∀z∈ps,z.2=0)->zL day ps s=([],s)
 | [],_,_=>rfl
 |z::r,s,h=>by
  rw[zL,Jf (by rw[h z Jq];decide)];exact zgz day r s λx hx=>h x (Jl _ hx)
theorem ziS(day:Int){g:Nat->Int}(h: ∀i:Nat,i<n->tkS s i=g i):yi day ((List.range n).map g) s=([],s):=by
 have hz: ∀z∈zU s ((List.range n).map g),z.2=0:=λz hz=>by
  obtain⟨i,hi,rfl⟩:=List.mem_iff_getElem.mp hz;have hi':=hi;rw[wC,Ja,JI] at hi';have e:=jp (s:=s) (cs:=(List.range n).map g) (i:=i) (c:=g i) (by rw[Jh,List.getElem?_range hi'];rfl);rw[Jb hi] at e;rw[JV e]
  have:=h i hi';unfold tkS at this;show g i - _=0;omega
 unfold yi;rw[zgy day _ s hz,zgz day _ s hz];rfl
theorem ziT(cst:Int->Int->Int)(ys:List En)(day:Int)(k:Nat)(isb:Bool)(s:Pt)(h:(ys.any λz=>decide (z.2.2.1=day))=false-> ∀i:Nat,i<(if isb=true then k else k+1)->tkS s i=cst day i):yq cst ys day k isb s=
  (let r:=yi day ((List.range (if isb=true then k else k+1)).map λi:Nat=>cst day i) (s.1+zG day ys,s.2)
   let b:=if isb=true then ([yv r.2 day yX k (cst day k)],yK r.2 k (cst day k)) else ([],r.2)
   let e:=yx day ys b.2
   (yg day 0 ys++r.1++b.1++e.1,e.2)):=by
 unfold yq;cases hany:(ys.any λz=>decide (z.2.2.1=day)) with
 |true=>rfl
 |false=>
  have:=ziS day (s:=(s.1+zG day ys,s.2)) (g:=λi:Nat=>cst day i) (h hany);rw[this];rfl
def zpR(K:Fg):Sp:=λvs H Q _=> ∃(kd td pa le la:Addr) (f:Int) (dy:Bool) (c:Int) (zs:List (V×Pl)) (ys:List En) (Gm:Int->Int->List D) (s:Pt) (day:Int) (k:Nat) (isb:Bool),vs= [.ref kd, .ref pa, .ref le, .int day, .int ((if isb=true then k else k+1:Nat):Int)]/\Kn K H kd td s/\yG K H pa la f dy c zs/\SqL K H le (ys.map (·.1))/\EnX zs f (Cal.beg f dy c 60) K H ys/\(∀m,GL f dy c ys m (Gm m))/\SpAt f dy c day k isb/\s.2.2.length<=100/\Pos s/\(∀i:Nat,i<60->0<=cstF f dy c zs Gm day i)/\(∀z∈ys,∀a,z.2.2.2= .grant a->0<=a)/\((ys.any λz=>decide (z.2.2.1=day))=false-> ∀i:Nat,i<(if isb=true then k else k+1)->tkS s i=cstF f dy c zs Gm day i)/\ ∀r (ws:List (Addr×Ln)) H',Kp H H'->Kn K H' kd td (yq (cstF f dy c zs Gm) ys day k isb s).2->H' r=some (.lst (ws.map λw=>V.ref w.1))->z7 H' ws->ws.map (·.2)=(yq (cstF f dy c zs Gm) ys day k isb s).1->Q (.ref r) H'
theorem sc_1d:FnScope ["_law_known","_law_account_here","_law_entries_here","_law_day_here","_law_begun","_law_found","_law_number","_law_entered","_law_change_here","_law_terms","_law_cost"] ["_law_known","_law_account_here","_law_entries_here","_law_day_here","_law_begun"] (zE s_1d):=by sl_open
theorem ok_1d(T:Txt w K mg t):FnOk P w K mg base (CXE P w) 13 t.a_1d t.d_1d ["_law_known","_law_account_here","_law_entries_here","_law_day_here","_law_begun"] (zpR K):=by
 refine T.F_1d.fn.okX sc_1d ?_ λcdv A outer s H vs Q E L hr h=> ?_
 ·kdl_open
 obtain⟨kd,td,pa,le,la',f,dy,c,zs,ys,Gm,s0,day,k,isb,rfl,hk,hz,hS,hY,hG,sp,t100,po,c0,gr0,hno,q⟩:=h;have nd:=sc_1d.nd;refine⟨_,(zj (psJ 5 nd (zY ze)) (zj (qp (by passes_own) rfl (xJ (by rfl) T.no_range (zb (ye xW (by rfl) T.no_len xY (zb (pvJ 2) ze)) ze)) (zr (i:=6) nd rfl (Or.inl rfl)) (zj (yB (ixJ yj (pvJ 2) (pvJ 6)) (zZ (n:=2) rfl (zH (zr (i:=7) nd rfl (Or.inl rfl)) (zH (zr (i:=8) nd rfl (Or.inl rfl)) yF)))) (zq (zP (PWQ.pq (xR (qe (pvJ 7) (pvJ 3)) (xQ (qe (ixJ zQ (pvJ 8) zc) (zI st_14))))) (zj (xi (yn hr) (pvJ 0) (zI st_24) (zh zO (qI (yn hr) (pvJ 0) (zI st_24) (λ_ _=>rfl)) (ixJ zQ (pvJ 8) zc)) rfl) (zq (yU (qd PySem.F.plainAttrs_list PySem.F.slot_list_append PySem.F.type_list_append qq (pvJ 5) (zb (zN (zb (pvJ 3) (zb (zI st_14) (zb (pvJ 6) (zb (ixJ zQ (pvJ 8) zc) (zb zc (zb zc (zb zc ze zC) zC) zC) yf) zg) zC) zg)) ze))))) zR)))) (zj (psJ 9 nd (peD L.toLv (ok_0p T) hr T.F_0p (zb (pvJ 2) (zb (pvJ 3) ze zg) zg))) (zj (psJ 5 nd (zh vW (pvJ 5) (peD L.toLv (ok_1c T) hr T.F_1c (zb (pvJ 0) (zb (pvJ 1) (zb (pvJ 9) (zb (pvJ 3) (zb (pvJ 4) ze zg) zg) zg) zg) zg)))) (zj (wJ (zP (qe (peD L.toLv (ok_08 T) hr T.F_08 (zb (ixJ zQ (pvJ 1) zc) (zb (ixJ zQ (pvJ 1) zc) (zb (pvJ 4) ze zg) yf) yf)) (pvJ 3)) (zj (psJ 10 nd (peD L.toLv (ok_0m T) hr T.F_0m (zb (pvJ 1) (zb (pvJ 9) (zb (pvJ 4) ze zg) zg) zg))) (zq (yU (qd PySem.F.plainAttrs_list PySem.F.slot_list_append PySem.F.type_list_append qq (pvJ 5) (zb (zh uB (zN (zb (pvJ 3) (zb (zI st_17) (zb (pvJ 4) (zb (pvJ 10) ze zg) zg) zC) zg)) (peD L.toLv (ok_1a T) hr T.F_1a (zb (pvJ 0) (zb (pvJ 4) (zb (pvJ 10) ze zg) zg) zg))) ze))))) zR)) (zj (wJ (zP (PWQ.pq (xR (qL (ql (zoZ hr) (zN (zb (pvJ 3) (zb (zN (zb (zI st_16) ze)) ze kg) zg)) (pvJ 2) rfl)) (xQ (yp q5 (qI (yn hr) (pvJ 0) (zI st_25) (λ_ _=>rfl)) zc)))) (zj (yU (qd PySem.F.plainAttrs_list PySem.F.slot_list_append PySem.F.type_list_append qq (pvJ 5) (zb (zN (zb (pvJ 3) (zb (zI st_16) (zb (vg vw zc) (zb (qI (yn hr) (pvJ 0) (zI st_25) (λ_ _=>rfl)) (zb zc (zb zc (zb zc ze zC) zC) zC) yf)) zC) zg)) ze))) (zq (xi (yn hr) (pvJ 0) (zI st_25) zc rfl))) zR)) (zq (zD (pvJ 5))))))))),?_⟩;rw[ziT _ _ _ _ _ _ hno] at q;clear hno;obtain⟨pc,f0,f1,hc,epa⟩:=id hz.1;have n60:(if isb=true then k else k+1)<=60:=by have:=sp.k60;split<;>omega
 obtain⟨n,hn⟩: ∃n,n=(if isb=true then k else k+1):=⟨_,rfl⟩
 rw[<-hn] at q n60 ⊢;open_k0;intro l0 H1 hl0 s1 e1
 ((try dsimp only);refine qC λR hR=> ?_;(open_k0;repeat (dsimp only[yH,qm,qr,qb,qx];open_k0)))
 refine⟨_, .inl (s1.seq hS),'o',by rw[Ja];have:=hY.2.1;omega,hR _ _ ?_⟩;clear hR;rw[Ja,JF];have fr0:Fr H l0:=λu e=>by rw[hl0] at e;cases e
 obtain⟨Pv,hPv⟩: ∃Pv:Nat->St->Hp->Prop,Pv=λi σ1 H2=> ∃(ws:List (Addr×Ln)) (x6 x7 x8:Option V),Kp H H2/\Kn K H2 kd td (s0.1+zG day (ys.take i),s0.2)/\H2 l0=some (.lst (ws.map λw=>V.ref w.1))/\z7 H2 ws/\ws.map (·.2)=yg day 0 (ys.take i)/\σ1= [some (.ref kd),some (.ref pa),some (.ref le),some (.int day),some (.int (n:Int)),some (.ref l0),x6,x7,x8,none,none]:=⟨_,rfl⟩
 refine vf Pv (by rw[hPv];exact⟨[],_,_,_,Kp.of_same s1,by rw[List.take_zero];show Kn K H1 kd td (s0.1+0,s0.2);rw[JJ];exact hk.same s1,e1,(λw h=>nomatch h),rfl,rfl⟩) (λi σ1 H2 hi h=> ?_) (λσ1 H2 h=> ?_)
 ·rw[hPv] at h;obtain⟨ws,x6,x7,x8,k2,K2,e2,la,lm,rfl⟩:=h;have hz':=Jb hi;generalize ys[i]=z at hz';obtain⟨pe,ee,q1,q2⟩:=(k2.ens hY.1) z (Ji hz');open_k0;refine ixL (k2.sqL hS) (v:= .ref pe) (by rw[JS];exact xf (by rw[Jh,hz',<-ee];rfl)) ⟨pe,_,rfl,q1,rfl,?_⟩;open_k0;obtain⟨gF,gA⟩:=zft (day:=day) hz';have stay:yg day 0 (ys.take (i+1))=yg day 0 (ys.take i)->zG day (ys.take (i+1))=zG day (ys.take i)->Pv (i+1) [some (V.ref kd),some (V.ref pa),some (V.ref le),some (V.int day),some (V.int n),some (V.ref l0),some (V.int (0+(i:Int))),some (V.int z.2.2.1),some (V.ref z.2.1),none,none] H2:=λg1 g2=>by
   rw[hPv];exact⟨ws,_,_,_,k2,by rw[g2];exact K2,e2,la,by rw[g1];exact lm,rfl⟩
  by_cases hd:z.2.2.1=day
  ·rw[Jg hd];generalize hc:z.2.2.2=ch at q2 gF gA;cases ch with
   |plan a b=>exact ixT (show SqT K H2 z.2.1 (V.str (SL _)::_) from q2) (z5 _ _) ⟨rfl,zW (yD 'd') (stay (by rw[gF];exact Jt _) (by rw[gA];exact JJ _))⟩
   |seats a b=>exact ixT (show SqT K H2 z.2.1 (V.str (SL _)::_) from q2) (z5 _ _) ⟨rfl,zW (yD 'd') (stay (by rw[gF];exact Jt _) (by rw[gA];exact JJ _))⟩
   |word a b=>exact ixT (show SqT K H2 z.2.1 (V.str (SL _)::_) from q2) (z5 _ _) ⟨rfl,zW (yD (λz=>absurd ((jw a).1) (by rw[z];decide))) (stay (by rw[gF];exact Jt _) (by rw[gA];exact JJ _))⟩
   |undo a=>exact ixT (show SqT K H2 z.2.1 (V.str (SL _)::_) from q2) (z5 _ _) ⟨rfl,zW (yD 'd') (stay (by rw[gF];exact Jt _) (by rw[gA];exact JJ _))⟩
   |back=>exact ixT (show SqT K H2 z.2.1 (V.str (SL _)::_) from q2) (z5 _ _) ⟨rfl,zW (yD 'd') (stay (by rw[gF];exact Jt _) (by rw[gA];exact JJ _))⟩
   |grant a=>
    have q2':SqT K H2 z.2.1 [.str (SL [103,114,97,110,116]), .int a]:=q2;refine ixT q2' (z5 _ _) ⟨rfl,qW rfl ⟨_,yo.k (k:=Sum.inr (SL [103,105,118,101,110])) K2.1,ixT q2' (yY _ _ _) ⟨_,rfl,_,rfl,_,qk.k (k:=Sum.inr (SL [103,105,118,101,110])) K2.1 (vE ..),?_⟩⟩⟩;rw[zmp];obtain⟨K3,k3⟩:=K2.put (s0.1+zG day (ys.take i)+a) s0.2.1
    (open_k0;repeat (dsimp only[tBM];open_k0))
    generalize upd H2 kd _=H3 at K3 k3 ⊢;have e3:=k3.lst e2;refine⟨.inl ⟨rfl,_,SqL.of e3⟩,ixT (k3.sqT q2') (yY _ _ _) λr4 H4 _ s4 e4=> ?_⟩;have wl:ws.length<=40:=by
     have:=congrArg List.length lm;rw[Ja] at this;rw[this];exact JE (wX day _ 0) (by rw[JB];have:=hY.2.1;omega)
    refine⟨l0,_,_,rfl,rfl,s4 _ _ e3,by rw[Ja];exact qi 'o',?_⟩;obtain⟨a1,a2,a3⟩:=xU (z:=(day,xE,(i:Int),a,0,0,0)) ((k2.trans k3).trans (Kp.of_same s4)) fr0 (s4 _ _ e3) (la.keep (k3.trans (Kp.of_same s4))) (by rw[e4,JS];rfl);rw[hPv];refine⟨_,_,_,_,a1,?_,a2,a3,by rw[Jd,lm,gF];simp only[hd,if_true];rfl,rfl⟩;have P5:=(K3.same s4).app (ys:=(ws.map λw=>V.ref w.1)++ [.ref r4]) (s4 _ _ e3);rw[gA];simp only[hd,if_true];rw[<-Int.add_assoc];exact P5
  ·rw[Jf hd];refine stay ?_ ?_
   ·rw[gF];cases z.2.2.2<;>simp [hd]
   ·rw[gA];cases z.2.2.2<;>simp [hd]
 rw[hPv] at h;obtain⟨ws,x6,x7,x8,k2,K2,e2,la,lm,rfl⟩:=h;clear hPv;rw[JC] at K2 lm;open_k0;have wl2:ws.length<=40:=by
  have h:=congrArg List.length lm;rw[Ja] at h;rw[h];exact JE (wX day ys 0) hY.2.1
 refine⟨le,ys,day,rfl,k2.sqL hS,k2.ens hY.1,hY.2.1,hY.2.2.1,hY.2.2.2.1,λrt as H3 _ s3 e3 t3=> ?_⟩;have k23:=k2.trans (Kp.of_same s3);obtain⟨ts,tA,tk,tz⟩:=zfL dy c hY.2.2.1 hY.2.2.2.1 hY.2.1 (k23.ens hY.1) hY.2.2.2.2.1 e3 t3;have hx3:=(hY.kp k23).tmx (λt h=>(tA.2.2.1 t h).2.2.1) tz;have hGt:=hG day ts tk;refine⟨kd,td,pa,rt,la',f,dy,c,zs,ts,Gm day,_,day,n,rfl,K2.same s3,hz.kp k23,tA,hx3,hGt,n60,t100,λrr wr H4 k4 K4 e4 la4 lm4=> ?_⟩;dsimp only;obtain⟨r1,hr1⟩: ∃r1,r1=yi day ((List.range n).map λi:Nat=>cstF f dy c zs Gm day i) (s0.1+zG day ys,s0.2):=⟨_,rfl⟩
 replace K4:Kn K H4 kd td r1.2:=by rw[hr1];exact K4
 replace lm4:wr.map (·.2)=r1.1:=by rw[hr1];exact lm4
 have r1p:Pos r1.2:=by
  rw[hr1];refine(zgt day _ _ (zet day ys 0 s0 po gr0).2 λx hx=> ?_).2;obtain⟨i,hi,rfl⟩:=Jw.mp hx;exact c0 i (by have:=List.mem_range.mp hi;omega)
 have r1t:r1.2.2.2.length<=300/\r1.1.length<=120:=by
  rw[hr1];have h1:=zfu day ((List.range n).map λi:Nat=>cstF f dy c zs Gm day i) (s0.1+zG day ys,s0.2);have h2:=jq day ((List.range n).map λi:Nat=>cstF f dy c zs Gm day i) (s0.1+zG day ys,s0.2);rw[Ja,JI] at h1 h2;have e9:(s0.1+zG day ys,s0.2).2.2.length=s0.2.2.length:=rfl;omega
 dsimp only at q;rw[<-hr1] at q;clear hr1;have wrl:wr.length<=120:=by
  have h:=congrArg List.length lm4;rw[Ja] at h;omega
 have k34:=(Kp.of_same s3).trans k4;have k04:=k2.trans k34;refine⟨l0,rr,_,_,rfl,rfl,k34.lst e2,e4,by rw[Ja,Ja];exact qB 'o',λl5 H5 hl5 s5 e5=> ?_⟩;have fr5:=k04.fr hl5;have k05:=k04.trans (Kp.of_same s5);have K5:=K4.same s5;have la5:z7 H5 (ws++wr):=λw hw=>by
  rcases Jr.mp hw with h|h
  ·exact la.keep (k34.trans (Kp.of_same s5)) w h
  ·exact la4.keep (Kp.of_same s5) w h
 rw[<-Jd] at e5;have lm5:(ws++wr).map (·.2)=yg day 0 ys++r1.1:=by rw[Jd,lm,lm4]
 have tA5:=(show xT K H5 rt f (Cal.beg f dy c 60) ts from⟨(k4.trans (Kp.of_same s5)).lst tA.1,tA.2.1,λt ht=>⟨⟨(k4.trans (Kp.of_same s5)).tup (tA.2.2.1 t ht).1.1,(k4.trans (Kp.of_same s5)).sqT (tA.2.2.1 t ht).1.2⟩,(tA.2.2.1 t ht).2⟩,tA.2.2.2⟩)
 have hz5:=hz.kp k05;have wl5:(ws++wr).length<=160:=by rw[Jj];omega
 generalize ws++wr=ws5 at e5 la5 lm5 wl5;clear e2 e4 la la4 lm lm4 K2 K4 e3 t3 tA k23 k34 k4 wl2 wrl s3 s5 hl5 k04 k2;obtain⟨b,hb⟩: ∃b,b=(if isb=true then ([yv r1.2 day yX k (cstF f dy c zs Gm day k)],yK r1.2 k (cstF f dy c zs Gm day k)) else ([],r1.2)):=⟨_,rfl⟩
 rw[<-hb] at q;have bp:Pos b.2:=by
  rw[hb];split
  ·exact(zfA r1p day (.inl rfl) k (c0 k sp.k60)).2
  ·exact r1p
 obtain⟨R,hR⟩: ∃R:St->Hp->Prop,R=λσ6 H6=> ∃(ws6:List (Addr×Ln)) (x10:Option V),Kp H H6/\Kn K H6 kd td b.2/\H6 l5=some (.lst (ws6.map λw=>V.ref w.1))/\z7 H6 ws6/\ws6.map (·.2)=yg day 0 ys++r1.1++b.1/\ws6.length<=161/\σ6= [some (.ref kd),some (.ref pa),some (.ref le),some (.int day),some (.int (n:Int)),some (.ref l5),x6,x7,x8,some (.ref rt),x10]:=⟨_,rfl⟩
 refine⟨R,?_,λσ6 H6 h6=> ?_⟩
 ·(open_k0;repeat (dsimp only[tBM];open_k0))
  have hT5:=SqT.of (K:=K) (k05.tup epa);refine ixT hT5 (yY _ _ _) (ixT hT5 (wZ _ _ _ _) ⟨f,pc,dy,c,n,rfl,f0,f1,⟨k05.sqT hc.1,hc.2⟩,λ_ _ H6 s6=>⟨rfl,?_⟩,λz=>absurd z 'o',λz=>absurd z 'o'⟩);cases isb with
  |false=>
   rw[Jf 'd'] at hn hb;refine zW (λz=> ?_) ?_
   ·have:=sp.hi
    have:=V.int.inj z;rw[hn] at this;push_cast at this
    omega
   ·rw[hR,hb];exact⟨ws5,_,k05.trans (Kp.of_same s6),K5.same s6,s6 _ _ e5,la5.keep (Kp.of_same s6),by rw[lm5];exact(Jt _).symm,'o',rfl⟩
  |true=>
   rw[Jg rfl] at hn hb;have eb:Cal.beg f dy c n=day:=by rw[hn];exact of_decide_eq_true sp.ib.symm
   refine qW (by rw[eb]) ⟨pa,rt,la',f,dy,c,zs,ts,Gm day,n,rfl,hz5.same s6,tA5.same s6,hx3,hGt,λ_ _ H7 s7=> ?_,λz=>absurd z 'o',λz=>absurd z (by have:=sp.k60;omega)⟩;have s67:=s6.trans s7;refine⟨.inl ⟨rfl,_,SqL.of (s67 _ _ e5)⟩,λp8 H8 _ s8 e8=> ?_⟩;refine⟨kd,td,r1.2,_,_,rfl,(K5.same s67).same s8,'o',λr9 H9 k9 K9 e9=> ?_⟩;have k59:=(Kp.of_same (s67.trans s8)).trans k9;refine⟨p8,r9,_,_,rfl,rfl,SqT.of (k9.tup e8),SqT.of e9,by simp,jA,(λh=>nomatch h),λ_ p hp=> ?_⟩;have s10:=yP hp (.tup (LnV (yv r1.2 day yX n (cstF f dy c zs Gm day n))));have e10:(upd H9 p (.tup (LnV (yv r1.2 day yX n (cstF f dy c zs Gm day n))))) p=some _:=zF;have k510:=k59.trans (Kp.of_same s10);have K10:=K9.same s10;refine(show zi2 (.ref l5) [.ref p] (upd H9 p (.tup (LnV (yv r1.2 day yX n (cstF f dy c zs Gm day n))))) _ from ?_);generalize upd H9 p _=H10 at s10 e10 k510 K10 ⊢;refine⟨l5,_,_,rfl,rfl,k510.lst e5,by rw[Ja];exact qi 'o',?_⟩;obtain⟨a1,a2,a3⟩:=xU (k05.trans k510) fr5 (k510.lst e5) (la5.keep k510) e10;rw[hR,hb];exact⟨_,_,a1,by rw[<-hn];exact K10.app (k510.lst e5),a2,a3,by rw[Jd,lm5,<-hn];rfl,by rw[Jj];exact Nat.succ_le_succ wl5,rfl⟩
 rw[hR] at h6;obtain⟨ws6,x10,k6,K6,e6,la6,lm6,wl6,rfl⟩:=h6;clear hR hb e5 la5 lm5 K5 tA5 hz5;obtain⟨as,ea⟩:=zeu hY.1;have eB:yx day ys b.2=if xS day ys=true/\0<b.2.2.1 then ([(day,xm, -1,b.2.2.1,0,0,0)],(b.2.1,0,b.2.2.2)) else ([],b.2):=by
  have o0:=bp.o;unfold yx;by_cases h1:xS day ys=true
  ·by_cases h2:b.2.2.1=0
   ·rw[Jg h1,Jg h2,Jf (λz=>by omega),<-h2]
   ·rw[Jg h1,Jf h2,Jg ⟨h1,'o'⟩]
  ·rw[Jf h1,Jf (λz=>h1 z.1)]
 obtain⟨R,hR⟩: ∃R:St->Hp->Prop,R=λσ7 H7=> ∃(ws7:List (Addr×Ln)),Kp H H7/\Kn K H7 kd td (yx day ys b.2).2/\H7 l5=some (.lst (ws7.map λw=>V.ref w.1))/\z7 H7 ws7/\ws7.map (·.2)=yg day 0 ys++r1.1++b.1++(yx day ys b.2).1/\σ7= [some (.ref kd),some (.ref pa),some (.ref le),some (.int day),some (.int (n:Int)),some (.ref l5),x6,x7,x8,some (.ref rt),x10]:=⟨_,rfl⟩
 refine⟨R,?_,λσ7 H7 h7=> ?_⟩
 ·(open_k0;repeat (dsimp only[tBM];open_k0))
  intro b1 H7 _ s7 e7 b2 H8 _ s8 e8;have s68:=s7.trans s8;have k8:=k6.trans (Kp.of_same s68);have hE8:=(k8.ens hY.1).all2;rw[ea] at hE8;have hS8:=k8.sqL hS;rw[ea] at hS8;refine⟨le,as,2,ys.map enD, .tup [.int day, .tup [.str [98,97,99,107]]],rfl,hS8,hE8,xh (SqT.of e8) ⟨by simp only[Dp],xh (s8.sqT (SqT.of e7)) ⟨qH,trivial⟩,trivial⟩,'d',λe he=> ?_,?_⟩
  ·obtain⟨z,_,rfl⟩:=Jw.mp he;exact zhY day z
  have eb:((ys.map enD).any λe=>eqb 2 e (.tup [.int day, .tup [.str [98,97,99,107]]]))=xS day ys:=by
   unfold xS;rw[List.any_map];congr 1;funext z;exact zhX
  rw[eb];simp only[Js,if_false];refine⟨_,rfl,?_⟩;have K8:=K6.same s68;by_cases h1:xS day ys=true
  ·rw[Jg h1];refine⟨_,yo.k (k:=Sum.inr (SL [111,119,110])) K8.1,_,rfl,?_⟩;by_cases h2:0<b.2.2.1
   ·rw[Jg ⟨h1,h2⟩] at eB;rw[Jg h2];refine⟨.inl ⟨rfl,_,SqL.of (s68 _ _ e6)⟩,_,yo.k (k:=Sum.inr (SL [111,119,110])) K8.1,λp9 H9 _ s9 e9=> ?_⟩;have s69:=s68.trans s9;refine⟨l5,_,_,rfl,rfl,s69 _ _ e6,by rw[Ja];exact qi 'o',?_⟩;obtain⟨a1,a2,a3⟩:=xU (z:=(day,xm, -1,b.2.2.1,0,0,0)) (k6.trans (Kp.of_same s69)) fr5 (s69 _ _ e6) (la6.keep (Kp.of_same s69)) e9;have K9:=(K8.same s9).app (ys:=(ws6.map λw=>V.ref w.1)++ [.ref p9]) (s69 _ _ e6);generalize upd H9 l5 _=H10 at a1 a2 a3 K9 ⊢;refine⟨_,qk.k (k:=Sum.inr (SL [111,119,110])) K9.1 (vE ..),?_⟩;rw[zmq];obtain⟨K11,b11⟩:=K9.put b.2.1 0;rw[hR,eB];exact⟨_,a1.trans b11,K11,b11.lst a2,a3.keep b11,by rw[Jd,lm6];rfl,rfl⟩
   ·rw[Jf (λz=>h2 z.2)] at eB;rw[Jf h2,hR,eB];exact⟨ws6,k8,K8,s68 _ _ e6,la6.keep (Kp.of_same s68),by rw[lm6];exact(Jt _).symm,rfl⟩
  ·rw[Jf (λz=>h1 z.1)] at eB;rw[Jf h1,hR,eB];exact⟨ws6,k8,K8,s68 _ _ e6,la6.keep (Kp.of_same s68),by rw[lm6];exact(Jt _).symm,rfl⟩
 rw[hR] at h7;obtain⟨ws7,k7,K7,e7,la7,lm7,rfl⟩:=h7;open_k0;exact q l5 ws7 H7 k7 K7 e7 la7 lm7
theorem zgA{ys:List En}{y:Int}{C:Nat}: ∀(a:List (Int×Nat×Bool)) {z:Int×Nat×Bool} {r:List (Int×Nat×Bool)} {x:Int} {B:Nat},wY ys y C x B (a++z::r)->wY ys (z.1 - 1) (if z.2.2=true then z.2.1 else z.2.1+1) x B a
 | [],z,r,x,B,h=>⟨h.2.2.1.symm,by have:=h.1;omega,λe he q=>h.2.1 e he ⟨q.1,'o'⟩⟩
 |w::a,z,r,x,B,h=>⟨h.1,h.2.1,h.2.2.1,zgA a h.2.2.2⟩
theorem zh4{p:Nat->Bool}{n:Nat}(h: ∀j,p j=decide (j<n)): ∀m:Nat,((List.range m).filter p).length=min n m
 |0=>(Nat.min_zero n).symm
 |m+1=>by
  rw[JQ,JT,Jj,zh4 h m,JU,h m];by_cases c:m<n
  ·rw[JO c,Jg rfl];show min n m+1=min n (m+1);omega
  ·rw[JP c,Jf 'd'];show min n m+0=min n (m+1);omega
theorem zh5(day:Int): ∀{os:List Int},os.Pairwise (· < ·)-> ∃a b,os=a++b/\(∀x∈a,x<=day)/\ ∀x∈b,day<x
 | [],_=>⟨[], [],rfl,nofun,nofun⟩
 |x::r,h=>by
  rw[List.pairwise_cons] at h;by_cases q:x<=day
  ·obtain⟨a,b,e1,h1,h2⟩:=zh5 day h.2;exact⟨x::a,b,by rw[e1];rfl,λy hy=>(JD.mp hy).elim (λe=>e ▸ q) (h1 y),h2⟩
  ·refine⟨[],x::r,rfl,nofun,λy hy=> ?_⟩;rcases JD.mp hy with rfl|hy
   ·omega
   ·have:=h.1 y hy;omega
theorem zms{f:Int}{x:Int}{k:Nat}{isb:Bool}(f0:0<=f)(f1:f<=3500000)(hc:Cal.CycOk dy c)(sp:SpAt f dy c x k isb){j:Nat}(hj:j<60):decide (Cal.beg f dy c j<x)=decide (j<if isb=true then k else k+1):=by
 obtain⟨k60,lo,hi,ib⟩:=sp;cases isb with
 |true=>
  have e:=of_decide_eq_true ib.symm;rw[Jg rfl,decide_eq_decide];refine⟨λh=> ?_,λh=> ?_⟩
  ·rcases Nat.lt_or_ge j k with g|g
   ·exact g
   ·have:=Cal.beg_le (k:=k) (j:=j) f0 f1 hc 'o' 'o' 'o';omega
  ·have:=Cal.beg_lt (k:=j) (j:=k) f0 f1 hc 'o' 'o' 'o';omega
 |false=>
  have e:=of_decide_eq_false ib.symm;rw[Jf 'd',decide_eq_decide];refine⟨λh=> ?_,λh=> ?_⟩
  ·rcases Nat.lt_or_ge j (k+1) with g|g
   ·exact g
   ·have:=Cal.beg_le (k:=(k:Int)+1) (j:=j) f0 f1 hc 'o' 'o' 'o';omega
  ·have:=Cal.beg_le (k:=j) (j:=k) f0 f1 hc 'o' 'o' 'o';omega
def zpS(K:Fg):Sp:=λvs H Q _=> ∃(pa le la:Addr) (f:Int) (dy:Bool) (c:Int) (zs:List (V×Pl)) (ys:List En) (Gm:Int->Int->List D) (day:Int),vs= [.ref pa, .ref le, .int day]/\yG K H pa la f dy c zs/\H le=some (.lst (ys.map (·.1)))/\EnX zs f (Cal.beg f dy c 60) K H ys/\(∀z∈ys,f<=z.2.2.1)/\(∀m,GL f dy c ys m (Gm m))/\(∀x y,zV ys x=zV ys y->Gm x=Gm y)/\(∀m o sb se b e,b<=e->sb<se->0<=yr zs sb se b e (Gm m o))/\(∀z∈ys,∀a,z.2.2.2= .grant a->0<=a)/\day<Cal.beg f dy c 60/\ ∀r (ds:List (Int×Nat×Bool)) (ws:List (Addr×Ln)) H',WDays f dy c ys day ds->Kp H H'->H' r=some (.lst (ws.map λw=>V.ref w.1))->z7 H' ws->ws.map (·.2)=(yd (cstF f dy c zs Gm) ys ds (0,0, [])).1->Q (.ref r) H'
theorem sc_1e:FnScope ["_law_account_here","_law_entries_here","_law_day_here","_law_known","_law_found","_law_begins","_law_one","_law_begun"] ["_law_account_here","_law_entries_here","_law_day_here"] (zE s_1e):=by sl_open
theorem ok_1e(T:Txt w K mg t):FnOk P w K mg base (CXE P w) 14 t.a_1e t.d_1e ["_law_account_here","_law_entries_here","_law_day_here"] (zpS K):=by
 refine T.F_1e.fn.okX sc_1e ?_ λcdv A outer s H vs Q E L hr h=> ?_
 ·kdl_open
 obtain⟨pa,le,la,f,dy,c,zs,ys,Gm,day,rfl,hz,hS,hY,hy0,hG,hg,nn,gr0,d60,q⟩:=h;have nd:=sc_1e.nd;refine⟨_,(zj (psJ 3 nd (zmY (kz (zI st_24) zc (kz (zI st_25) zc (kz (zI st_26) kA zmX))) rfl rfl (by simp) (by simp))) (zj (psJ 4 nd (zY ze)) (zj (vo (i:=5) nd rfl rfl (n:=1) (N:= ["_law_k","_law_account_here"]) (js:= [0]) (by rfl) rfl rfl (xJ (by rfl) T.no_range (zb zc ze)) (λa=>(zr (i:=0) (show List.Nodup (["_law_k","_law_account_here"]:List Str) from by decide+kernel) rfl (Or.inl rfl))) (λa=>xL) (λa=>(peD wL (ok_08 T) hr T.F_08 (zb (ixJ zQ (pvJ 1) zc) (zb (ixJ zQ (pvJ 1) zc) (zb (pvJ 0) ze zg) yf) yf)))) (zj (qp (by passes_own) rfl (qo (ye (zdD (w:=w) rfl (by rfl)) (by rfl) T.no_sorted uF (zb (xV (zfn (w:=w) (K:=K) rfl rfl (by rfl)) (by rfl) T.no_set zlu (zb (zh vW (pvJ 5) (xB (n:=2) (N:= ["_law_entered","_law_change_here"]) (js:= []) (by rfl) rfl rfl (qo (pvJ 1)) (λa=>(zZ (n:=2) rfl (yt (zr (i:=0) (show List.Nodup (["_law_entered","_law_change_here"]:List Str) from by decide+kernel) rfl (Or.inl rfl)) (yt (zr (i:=1) (show List.Nodup (["_law_entered","_law_change_here"]:List Str) from by decide+kernel) rfl (Or.inl rfl)) qT)))) (λa=>xL) (λa=>(pvJ 0)))) ze)) ze))) (zr (i:=6) nd rfl (Or.inr rfl)) (zq (zP (yp jK (pvJ 6) (pvJ 2)) (zj (psJ 7 nd (ye xW (by rfl) T.no_len xY (zb (xB (n:=1) (N:= ["_law_begin","_law_one"]) (js:= [6]) (by rfl) rfl rfl (qo (pvJ 5)) (λa=>(zr (i:=0) (show List.Nodup (["_law_begin","_law_one"]:List Str) from by decide+kernel) rfl (Or.inl rfl))) (λa=>(wN (ql zlC (pvJ 0) (pvJ 1) (yu _)))) (λa=>(pvJ 0))) ze))) (zq (psJ 4 nd (zh vW (pvJ 4) (peD L.toLv (ok_1d T) hr T.F_1d (zb (pvJ 3) (zb (pvJ 0) (zb (pvJ 1) (zb (pvJ 6) (zb (pvJ 7) ze zg) zg) zg) zg) zg)))))) zR))) (zq (zD (pvJ 4))))))),?_⟩;obtain⟨pc,f0,f1,hc,epa⟩:=id hz.1
 (open_k0;repeat (dsimp only[qG,qb,yH,znP,uM];open_k0))
 intro kd hkd td H1 htd s1 e1;have s01:=(yP hkd (.dK [])).trans s1;have nkt:kd≠td:=λz=>by rw[<-z,zF] at htd;cases htd
 refine⟨s1 _ _ zF,kvP 0 0 td,rfl,Nat.le_of_ble_eq_true rfl,λl0 H2 hl0 s2 e2=>⟨'d','d',λlb hlb aa=> ?_⟩⟩;have K2:Kn K H2 kd td (0,0, []):=⟨s2 _ _ (by rw[kmP];exact zF),nkt, [],s2 _ _ (by rw[zu nkt.symm];exact e1),trivial⟩
 have k2:Kp H H2:=((Kp.of_same s01).put λu e=>by rw[hkd] at e;cases e).trans (Kp.of_same s2);clear s1 s2 e1 s01 htd hkd;refine qQ (λj xs _=>xs=((List.range j).map λi:Nat=>Cal.beg f dy c i).map V.int) (uE 0 _ H2) hlb (by rw[qz];exact qj 'd') (λ_ _=>rfl) (λj y xs H3 K1 K0 hxx sm pv hl kk k0'=> ?_) (λxs H3 s3 pv _ w3=> ?_)
 ·have hj:=(Jc.mp hxx).1;rw[qz] at hj;rw[vU hj] at hxx;cases hxx;open_k0;have hT3:=sm.sqT (SqT.of (K:=K) (k2.tup epa));have hj':(j:Int)<60:=by have:j<60:=hj;omega
  refine ixT hT3 (yY _ _ _) (ixT hT3 (wZ _ _ _ _) ⟨f,pc,dy,c,_,rfl,f0,f1,⟨sm.sqT (k2.sqT hc.1),hc.2⟩,λ_ _ H4 s4=>kk _ _ s4 λH5 _=> ?_,λz=>absurd z 'o',λz=>absurd z 'o'⟩);rw[pv,JQ,Jd,Jd,JS];rfl
 rw[qz] at pv;subst pv;have k3:=k2.trans (Kp.of_same s3);have K3:=K2.same s3;have e3:=s3 _ _ e2;refine qC λR hR=> ?_
 (open_k0;repeat (dsimp only[yH,qG];open_k0))
 have y40:=hY.2.1;have hS3:=k3.lst hS;refine⟨⟨_,SqL.of hS3⟩,λl4 hl4 ab=> ?_⟩;refine qQ (λj xs _=>xs=((ys.take j).map λz=>z.2.2.1).map V.int) (xZ (SqL.of hS3)) hl4 (by rw[Ja];exact qj 'o') (λ_ _=>rfl) (λj y xs H4 K1 K0 hxx sm pv hl kk k0'=> ?_) (λxs H4 s4 pv _ w4=> ?_)
 ·rw[Jh] at hxx;obtain⟨z,hz',rfl⟩:=Jk.mp hxx;obtain⟨pe,ee,q1,_⟩:=(k3.ens hY.1) z (Ji hz');rw[ee];refine⟨pe,_,rfl,sm.sqT q1,rfl,?_⟩;open_k0;exact kk _ _ (zk.refl _) λH5 _=>by rw[pv,JH,hz',Jd,Jd];rfl
 rw[Ja,JC] at pv;subst pv;have w34:=s4 _ _ w3;refine⟨lb,l4,_,_,rfl,rfl,w34,w4,by rw[Ja,Ja,Ja,Ja,JI];exact qB 'o',λl5 H5 _ s5 e5=> ?_⟩;rw[<-Jd] at e5;generalize hzs:((List.range 60).map λi:Nat=>Cal.beg f dy c i)++(ys.map λz=>z.2.2.1)=zz at e5;have zl:zz.length<=100:=by
  rw[<-hzs,Jj,Ja,Ja,JI];omega
 have zm: ∀x,x∈zz↔(∃j:Nat,j<60/\x=Cal.beg f dy c j)\/ ∃z∈ys,z.2.2.1=x:=λx=>by
  rw[<-hzs,Jr,Jw,Jw];exact or_congr ⟨λ⟨j,hj,e⟩=>⟨j,List.mem_range.mp hj,e.symm⟩,λ⟨j,hj,e⟩=>⟨j,List.mem_range.mpr hj,e.symm⟩⟩ Iff.rfl
 clear hzs;refine⟨l5,rfl,zz,SqL.of e5,'o',λq6 H6 _ s6 e6=>⟨_,e6,JE (Se.met_len _ _) 'o',λos wp wo l7 H7 _ s7 e7=>⟨l7,rfl,⟨_,SqL.of e7⟩,hR _ _ ?_⟩⟩⟩;clear hR;have ol:os.length<=100:=by
  rw[wp.length_eq];exact JE (Se.met_len _ _) zl
 have wn:os.Nodup:=(wp.nodup_iff).mpr (zfm zz);have up:os.Pairwise (· < ·):=(List.Pairwise.and wo wn).imp λh=>by omega
 obtain⟨oa,ob,rfl,oa1,ob1⟩:=zh5 day up;have om: ∀x,x∈oa↔x<=day/\((∃j:Nat,j<60/\x=Cal.beg f dy c j)\/ ∃z∈ys,z.2.2.1=x):=λx=>by
  have m:x∈oa++ob↔_:=(wp.mem_iff.trans zhJ).trans (zm x);rw[<-m,Jr];refine⟨λh=>⟨oa1 x h, .inl h⟩,λh=> ?_⟩;rcases h.2 with g|g
  ·exact g
  ·have:=ob1 x g
   have:=h.1;omega
 obtain⟨ds,eo,dsp⟩:=zfN (f:=f) (dy:=dy) (c:=c) (ws:=oa) λx hx=>by
  obtain⟨h1,h2⟩:=(om x).mp hx;have fx:f<=x:=by
   rcases h2 with⟨j,j1,rfl⟩|⟨z,hz',rfl⟩
   ·exact Cal.beg_ge (k:=j) f0 f1 hc.2 'o' 'o'
   ·exact hy0 z hz'
  obtain⟨k,k0,k1,ka,kb⟩:=uj (f:=f) (dy:=dy) (c:=c) (d:=x) (by rw[Cal.beg_zero f0 f1];exact fx) 60 (by show x<Cal.beg f dy c 60;omega);obtain⟨k,rfl⟩:=Int.eq_ofNat_of_zero_le k0;exact⟨k,_,⟨'o',ka,kb,rfl⟩⟩
 subst eo;have wd:WDays f dy c ys day ds:=⟨(List.pairwise_append.mp up).1,dsp,om⟩
 have dl:ds.length<=100:=by rw[Jj,Ja] at ol;omega
 have s37:=((s4.trans s5).trans s6).trans s7;have k7:=k3.trans (Kp.of_same s37);have K7:=K3.same s37;have e07:=s37 _ _ e3;have w7:=s37 _ _ w3;clear s4 s5 s6 s7 w4 w34 e5 e6 zm zl wp wo wn up hl4 hlb hl0 e3 e2 w3 s37 s3 K3 K2 k2 hS3;have hk: ∀x y,x<=y->(∀e∈ys,¬(x<e.2.2.1/\e.2.2.1<=y))-> ∀i,cstF f dy c zs Gm x i=cstF f dy c zs Gm y i:=λx y h no i=>by unfold cstF;rw[hg x y (ziR h no)]
 obtain⟨Pv,hPv⟩: ∃Pv:Nat->St->Hp->Prop,Pv=λi σ1 H8=>Kp H7 H8/\ ∃(lf:Addr) (ws:List (Addr×Ln)) (x6 x7:Option V),Kn K H8 kd td (yd (cstF f dy c zs Gm) ys (ds.take i) (0,0, [])).2/\H8 lf=some (.lst (ws.map λw=>V.ref w.1))/\z7 H8 ws/\ws.map (·.2)=(yd (cstF f dy c zs Gm) ys (ds.take i) (0,0, [])).1/\σ1= [some (.ref pa),some (.ref le),some (.int day),some (.ref kd),some (.ref lf),some (.ref lb),x6,x7]:=⟨_,rfl⟩
 refine ve (xs:=(ds.map (·.1)++ob).map V.int) Pv (by rw[hPv];exact⟨Kp.of_same (zk.refl _),l0, [],_,_,K7,e07,(λw h=>nomatch h),rfl,rfl⟩) (λ_ _ _ _ h=>by rw[hPv] at h;exact SqL.of (h.1.lst e7)) (λi x σ1 H8 hx h=> ?_) (λσ1 H8 h=> ?_)
 ·rw[hPv] at h;obtain⟨k8,lf,ws,x6,x7,K8,e8,la8,lm8,rfl⟩:=h;rw[Jh] at hx;obtain⟨o,ho,rfl⟩:=Jk.mp hx
  (open_k0;repeat (dsimp only[yH,qG];open_k0))
  by_cases hi:i<ds.length
  ·have hz':=Jb hi;generalize ds[i]=z at hz';obtain rfl:z.1=o:=by
    rw[List.getElem?_append_left (by rw[Ja];exact hi),Jh,hz'] at ho;exact JV ho
   have zm:=Ji hz';have sp:=wd.sp z zm;have zd:=((wd.mem z.1).mp (Jw.mpr ⟨z,zm,rfl⟩)).1;refine qW zd ⟨⟨_,SqL.of (k8.lst w7)⟩,λl9 hl9 ac=> ?_⟩;have w8:=k8.lst w7;refine qQ (λj xs _=>xs=(((List.range j).filter λi:Nat=>decide (Cal.beg f dy c i<z.1)).map λi:Nat=>Cal.beg f dy c i).map V.int) (xZ (SqL.of w8)) hl9 (by rw[Ja,Ja,JI];exact qj 'd') (λ_ _=>rfl) (λj y xs H9 K1 K0 hxx sm pv hl kk k0'=> ?_) (λxs H9 s9 pv _ w9=> ?_)
   ·rw[Jh,Jh] at hxx;obtain⟨b,hb,rfl⟩:=Jk.mp hxx;obtain⟨j',hj',rfl⟩:=Jk.mp hb;obtain⟨hj,e⟩:=Jc.mp hj';rw[List.getElem_range] at e;subst e;open_k0;have nx:(List.range (j+1)).filter (λi:Nat=>decide (Cal.beg f dy c i<z.1))=(List.range j).filter (λi:Nat=>decide (Cal.beg f dy c i<z.1))++(if Cal.beg f dy c j<z.1 then [j] else []):=by
     rw[JQ,JT,JU];by_cases g:Cal.beg f dy c j<z.1
     ·rw[Jg (JO g),Jg g];rfl
     ·rw[Jf (λh=>g (of_decide_eq_true h)),Jf g];rfl
    by_cases g:Cal.beg f dy c j<z.1
    ·rw[Jg g] at nx ⊢;exact kk _ _ (zk.refl _) λH5 _=>by rw[pv,nx,Jd,Jd];rfl
    ·rw[Jf g] at nx ⊢;exact k0' _ (zk.refl _) (by rw[pv,nx,Jt])
   rw[Ja,Ja,JI] at pv;have n60:(if z.2.2=true then z.2.1 else z.2.1+1)<=60:=by have:=sp.k60;split<;>omega
   have xl:xs.length=(if z.2.2=true then z.2.1 else z.2.1+1):=by
    rw[pv,Ja,Ja,List.filter_congr (q:=λj=>decide (j<if z.2.2=true then z.2.1 else z.2.1+1)) λj hj=>zms f0 f1 hc.2 sp (List.mem_range.mp hj),zh4 λ_=>rfl];omega
   refine⟨l9,rfl,xs, .inl (SqL.of w9),?_⟩;rw[xl];have k9:=k8.trans (Kp.of_same s9);have k09:=k7.trans k9;have a60: ∀y∈ds.take i,y.2.1<60:=λy hy=>(wd.sp y (List.mem_of_mem_take hy)).k60;have tl:=(zfx (cstF f dy c zs Gm) ys (ds.take i) (0,0, []) a60 ⟨List.Pairwise.nil,nofun⟩).len;have bl:=zes (cstF f dy c zs Gm) y40 (ds.take i) (0,0, []) a60;obtain⟨_,po⟩:=zhS (cstF f dy c zs Gm) ys gr0 (ds.take i) (0,0, []) Pos.zero a60 (λz _ i hi=>zml f0 f1 hc.2 nn z.1 'o' 'o');have ch:wY ys (z.1 - 1) (if z.2.2=true then z.2.1 else z.2.1+1) (f - 1) 0 (ds.take i):=by
    obtain⟨k,k0,k1,ka,kb⟩:=uj (f:=f) (dy:=dy) (c:=c) (d:=day) (by rw[Cal.beg_zero f0 f1];have:=Cal.beg_ge (k:=z.2.1) f0 f1 hc.2 'o' (by have:=sp.k60;omega);have:=sp.lo;omega) 60 (by show day<Cal.beg f dy c 60;exact d60);obtain⟨k,rfl⟩:=Int.eq_ofNat_of_zero_le k0
    have:=zmk f0 f1 hc.2 hy0 wd 'o' ka kb;rw[<-List.take_append_drop i ds,List.drop_eq_getElem_cons hi,(Jc.mp hz').2] at this;exact zgA _ this
   have tk:=(zjv (cstF f dy c zs Gm) hk (ds.take i) (0,0, []) (f - 1) 0 ch (λi h=>absurd h (Nat.not_lt_zero i)) (λ_ _=>rfl)).1;have nx:=zgs (cstF f dy c zs Gm) ys (0,0, []) hz';refine⟨kd,td,pa,le,la,f,dy,c,zs,ys,Gm,_,z.1,z.2.1,z.2.2,rfl,K8.same s9,hz.kp k09,SqL.of (k09.lst hS),hY.kp k09,hG,sp,'o',po,λi hi=>zml f0 f1 hc.2 nn z.1 'o' 'o',gr0,λno j hj=> ?_,λr10 ws10 H10 k10 K10 e10 la10 lm10=> ?_⟩
   ·rw[tk j hj];refine hk _ _ 'o' (λe he g=> ?_) _
    have:=List.any_eq_false.mp no e he;exact this (JO 'o')
   have l10:=zer (cstF f dy c zs Gm) z.1 z.2.2 (yd (cstF f dy c zs Gm) ys (ds.take i) (0,0, [])).2 sp.k60 y40;have k910:=(Kp.of_same s9).trans k10;have wl:=congrArg List.length lm8;have wl10:=congrArg List.length lm10;rw[Ja] at wl wl10;rw[JB] at bl;refine⟨lf,r10,_,_,rfl,rfl,k910.lst e8,e10,by rw[Ja,Ja,sizeLine_eq];omega,λl11 H11 _ s11 e11=> ?_⟩;rw[hPv];refine⟨(k8.trans k910).trans (Kp.of_same s11),l11,ws++ws10,_,_,by rw[nx];exact K10.same s11,by rw[Jd];exact e11,λw hw=> ?_,by rw[nx,Jd,lm8,lm10],rfl⟩;rcases Jr.mp hw with h|h
   ·exact la8.keep (k910.trans (Kp.of_same s11)) w h
   ·exact la10.keep (Kp.of_same s11) w h
  ·have e1:ds.take (i+1)=ds.take i:=by rw[List.take_of_length_le 'o',List.take_of_length_le 'o']
   rw[List.getElem?_append_right (by rw[Ja];omega)] at ho
   have:=ob1 o (Ji ho);refine zW 'o' ?_;rw[hPv];exact⟨k8,lf,ws,_,_,by rw[e1];exact K8,e8,la8,by rw[e1];exact lm8,rfl⟩
 rw[hPv] at h;obtain⟨k8,lf,ws,x6,x7,K8,e8,la8,lm8,rfl⟩:=h;rw[Ja,Jj,Ja,List.take_of_length_le 'o'] at lm8;open_k0;exact q lf ds ws H8 wd (k7.trans k8) e8 la8 lm8
def zqL(K:Fg):Sp:=λvs H Q _=> ∃(lf ld:Addr) (ws us:List (Addr×Ln)),vs= [.ref lf, .ref ld]/\H lf=some (.lst (ws.map λw=>V.ref w.1))/\z7 H ws/\H ld=some (.lst (us.map λw=>V.ref w.1))/\z7 H us/\ws.map (·.2)=us.map (·.2)/\ ∀H',zk H H'->Q (.bl true) H'
theorem sc_1f:FnScope ["_law_found","_law_due_here","_law_line"] ["_law_found","_law_due_here"] (zE s_1f):=by sl_open
theorem ok_1f(T:Txt w K mg t):FnOk P w K mg base (CXE P w) 1 t.a_1f t.d_1f ["_law_found","_law_due_here"] (zqL K):=by
 refine T.F_1f.fn.okX sc_1f ?_ λcdv A outer s H vs Q E L hr h=> ?_
 ·kdl_open
 obtain⟨lf,ld,ws,us,rfl,hw,lw,hu,lu,eq,q⟩:=h;have nd:=sc_1f.nd;refine⟨_,(zj (zP (PWQ.pq (wB (jj (xH (ye vP (by rfl) T.no_isinstance vM (zb (pvJ 0) (zb (vQ (by rfl) T.no_list uC) ze zg) zg)))) (wz (qL (ql (vV hr) (pvJ 0) (pvJ 1) (yu _)))))) (zq (zD vF)) zR) (zj (qp (by passes_own) rfl (qo (pvJ 0)) (zr (i:=2) nd rfl (Or.inl rfl)) (zj (zP (PWQ.pq (wB (jj (xH (ye vP (by rfl) T.no_isinstance vM (zb (pvJ 2) (zb (vQ (by rfl) T.no_tuple zkP) ze zg) zg)))) (wz (jj (xH (ye vP (by rfl) T.no_isinstance vM (zb (ixJ zQ (pvJ 2) zc) (zb (vQ (by rfl) T.no_str zow) ze zg) yf))))))) (zq (zD vF)) zR) (zq (zP (qL (ql (vV hr) (xB (n:=1) (N:= ["_law_one"]) (js:= []) (by rfl) rfl rfl (zoc (zh uB (zhc zkE (pvJ 2) zi0 (zhM zc)) (zhc zkE (pvJ 2) (zhM zc) zi0))) (λa=>(zr (i:=0) (show List.Nodup (["_law_one"]:List Str) from by decide+kernel) rfl (Or.inl rfl))) (λa=>(wN (znA (zkj (xH (ye vP (by rfl) T.no_isinstance vM (zb (pvJ 0) (zb (vQ (by rfl) T.no_int vN) ze zg) zg)))) (zki (xH (ye vP (by rfl) T.no_isinstance vM (zb (pvJ 0) (zb (vQ (by rfl) T.no_bool zmN) ze zg) zg))))).pt)) (λa=>(pvJ 0))) (zY ze) (yu _))) (zq (zD vF)) zR)))) (zq (zD vF)))),?_⟩;open_k0;refine⟨_, .old (.lst hw),_,rfl,_,zhm,zW 'd' (neD (n:=1) (d:= .lst ((ws.map (·.2)).map lnD)) (xN (SqL.of hw) lw.dp) (xN (SqL.of hu) (by rw[eq];exact lu.dp)) rfl 'd' ⟨_,rfl,zW 'd' ?_⟩)⟩
 ((try dsimp only);refine qC λR hR=> ?_;(open_k0;repeat (dsimp only[yH,qm,qr,qb,qx];open_k0)))
 refine⟨⟨_,SqL.of hw⟩,hR _ _ ?_⟩;clear hR;obtain⟨Pv,hPv⟩: ∃Pv:Nat->St->Hp->Prop,Pv=λ(i:Nat) σ1 H7=>zk H H7/\ ∃x2:Option V,σ1= [some (.ref lf),some (.ref ld),x2]:=⟨_,rfl⟩
 refine ve (xs:=ws.map λw=>V.ref w.1) Pv (by rw[hPv];exact⟨zk.refl _,_,rfl⟩) (λ_ _ _ _ h=>by rw[hPv] at h;exact SqL.of (h.1 _ _ hw)) (λi x σ1 H7 hxx h=> ?_) (λσ1 H7 h=> ?_)
 ·rw[hPv] at h;obtain⟨s7,x2,rfl⟩:=h;rw[Jh] at hxx;obtain⟨y,hy,rfl⟩:=Jk.mp hxx;have e:=s7 _ _ (lw y (Ji hy));unfold LnV at e
  (open_k0;repeat (dsimp only[qG,qm];open_k0))
  refine⟨_, .old (.tup e),_,rfl,_,zhg,zW 'd' (ixT (SqT.of e) (yY _ _ _) ⟨_, .old (.str _),_,rfl,_,zhi,zW 'd' ?_⟩)⟩;refine⟨y.1,_,rfl,SqT.of e,(show¬(HT.sIx 7 0 none=0/\HT.sIx 7 7 (some 1)=7) from by decide),λp1 h1=>⟨y.1,_,rfl,SqT.of (yP h1 _ _ _ e),(show¬(HT.sIx 7 0 (some 2)=0/\HT.sIx 7 7 none=7) from by decide),λp2 h2=> ?_⟩⟩;have s8:=(yP h1 (.tup [.int y.2.1])).trans (yP (H:=upd H7 p1 (.tup [.int y.2.1])) h2 (.tup [.int y.2.2.2.1, .int y.2.2.2.2.1, .int y.2.2.2.2.2.1, .int y.2.2.2.2.2.2.1, .int y.2.2.2.2.2.2.2]));have e1:(upd (upd H7 p1 (.tup [.int y.2.1])) p2 (.tup [.int y.2.2.2.1, .int y.2.2.2.2.1, .int y.2.2.2.2.2.1, .int y.2.2.2.2.2.2.1, .int y.2.2.2.2.2.2.2])) p1=some (.tup [.int y.2.1]):=yP (H:=upd H7 p1 (.tup [.int y.2.1])) h2 _ _ _ zF;have e2:(upd (upd H7 p1 (.tup [.int y.2.1])) p2 (.tup [.int y.2.2.2.1, .int y.2.2.2.2.1, .int y.2.2.2.2.2.1, .int y.2.2.2.2.2.2.1, .int y.2.2.2.2.2.2.2])) p2=some _:=zF;refine(show znK K (.ref p1) (.ref p2) (upd (upd H7 p1 (.tup [.int y.2.1])) p2 (.tup [.int y.2.2.2.1, .int y.2.2.2.2.1, .int y.2.2.2.2.2.1, .int y.2.2.2.2.2.2.1, .int y.2.2.2.2.2.2.2])) _ from ?_);generalize upd (upd H7 p1 _) p2 _=H8 at s8 e1 e2 ⊢;refine⟨p1,p2,_,_,rfl,rfl,SqT.of e1,SqT.of e2,by simp,JE (by decide:6<=7) jA,(λh=>nomatch h),λ_ p3 h3=> ?_⟩;have s9:=yP h3 (.tup [.int y.2.1, .int y.2.2.2.1, .int y.2.2.2.2.1, .int y.2.2.2.2.2.1, .int y.2.2.2.2.2.2.1, .int y.2.2.2.2.2.2.2]);have e3:(upd H8 p3 (.tup [.int y.2.1, .int y.2.2.2.1, .int y.2.2.2.2.1, .int y.2.2.2.2.2.1, .int y.2.2.2.2.2.2.1, .int y.2.2.2.2.2.2.2])) p3=some _:=zF;refine⟨p3,rfl,⟨_,SqT.of zF⟩,λlc hlc aa=> ?_⟩;dsimp only[List.cons_append,List.nil_append] at hlc ⊢;generalize upd H8 p3 _=H9 at s9 e3 hlc ⊢;refine qQ (λj xs _=>xs= []) (zjS (SqT.of e3)) hlc (qj (by show 6<=1000;decide)) (λ_ _=>rfl) (λj v xs H10 K1 K0 hv sm pv hl k1 k0=> ?_) (λxs H10 s10 pv _ w10=> ?_)
  ·obtain⟨n,rfl⟩: ∃n,v= .int n:=by
    have:=Ji hv;simp only[JD,List.not_mem_nil,or_false] at this;rcases this with rfl|rfl|rfl|rfl|rfl|rfl<;>exact⟨_,rfl⟩
   open_k0;exact⟨_, .old (.int _),_,rfl,_,zhe,zW 'd' ⟨_, .old (.int _),_,rfl,_,zgH,zW 'd' (k0 _ (zk.refl _) pv)⟩⟩
  subst pv;intro l11 H11 _ s11 e11;refine neD (n:=0) (d:= .lst []) (xN (SqL.of (s11 _ _ w10)) trivial) (xN (SqL.of e11) trivial) rfl 'd' ⟨_,rfl,zW 'd' ?_⟩;rw[hPv];exact⟨(s7.trans s8).trans (s9.trans (s10.trans s11)),_,rfl⟩
 ·rw[hPv] at h;obtain⟨s7,x2,rfl⟩:=h;open_k0;exact q H7 s7
def zmt(K:Fg):Sp:=λvs H Q _=> ∃(a:Addr) (ns:List Int),vs= [.ref a]/\SqL K H a (ns.map V.int)/\ns.length<=63/\ ∀H',Q (.bl true) H'
theorem sc_1g:FnScope ["_law_script","_law_account_here","_law_entries_here","_law_day_here","_law_handed","_law_due_here","_law_found"] ["_law_script"] (zE s_1g):=by sl_open
theorem ok_1g(T:Txt w K mg t):FnOk P w K mg base (CXE P w) 15 t.a_1g t.d_1g ["_law_script"] (zmt K):=by
 refine T.F_1g.fn.okX sc_1g ?_ λcdv A outer s H vs Q E L hr h=> ?_
 ·kdl_open
 obtain⟨a,ns,rfl,hS,h63,q⟩:=h;have nd:=sc_1g.nd;refine⟨_,(zj (yB (peD L.toLv (ok_19 T) hr T.F_19 (zb (pvJ 0) ze)) (zZ (n:=3) rfl (zH (zr (i:=1) nd rfl (Or.inl rfl)) (zH (zr (i:=2) nd rfl (Or.inl rfl)) (zH (zr (i:=3) nd rfl (Or.inl rfl)) yF))))) (zj (psJ 4 nd (zY (zb (zN (zb (xV zdA (by rfl) T.no_list uC (zb (ixJ zQ (pvJ 1) zc) ze)) (zb (ixJ zQ (pvJ 1) zc) (zb (ixJ zQ (pvJ 1) zc) ze yf) yf) yI)) (zb (xV zdA (by rfl) T.no_list uC (zb (pvJ 2) ze)) ze yI) kg))) (zj (psJ 5 nd (peD L.toLv (ok_1e T) hr T.F_1e (zb (pvJ 1) (zb (pvJ 2) (zb (pvJ 3) ze zg) zg) zg))) (zj (psJ 6 nd (peD L.toLv (ok_10 T) hr T.F_10 (zb (ixJ yj (pvJ 4) zc) (zb (ixJ yj (pvJ 4) zc) (zb (pvJ 3) ze zg) yf) yf))) (zj (zP (PWQ.pq (wB (jj (xH (peD L.toLv (ok_1f T) hr T.F_1f (zb (pvJ 6) (zb (pvJ 5) ze zg) zg)))) (wz (qL (ql (vV hr) (pvJ 4) (zY (zb (pvJ 1) (zb (pvJ 2) ze zg) zg)) (yu _)))))) (zq (zD vF)) zR) (zj (yU (zop PySem.F.plainAttrs_list PySem.F.slot_list_clear PySem.F.type_list_clear zkK (pvJ 6))) (zq (zD (peD L.toLv (ok_1f T) hr T.F_1f (zb (peD L.toLv (ok_10 T) hr T.F_10 (zb (ixJ yj (pvJ 4) zc) (zb (ixJ yj (pvJ 4) zc) (zb (pvJ 3) ze zg) yf) yf)) (zb (pvJ 5) ze zg) yI)))))))))),?_⟩;open_k0;refine⟨a,ns,rfl,hS,'o',λp pa la le f dy c zs ys day H1 s1 hz yA yO yl el d0 d1 ep=>⟨p,_,rfl,SqT.of ep,rfl,?_⟩⟩;obtain⟨hY,hy0⟩:=zpP yA yO yl;obtain⟨pc,f0,f1,hc,epa⟩:=id hz.1;have hT:=SqT.of (K:=K) epa;open_k0;refine ixT hT (z5 _ _) ⟨la,rfl,_, .inl (SqL.of hz.2.1),λla2 H2 _ s2 e2=> ?_⟩;have hT2:=s2.sqT hT;refine ixT hT2 (yY _ _ _) (ixT hT2 (wZ _ _ _ _) λpa2 H3 _ s3 e3=> ?_);have s13:=s2.trans s3;refine⟨_, .inl (SqL.of (s13 _ _ el)),λle2 H4 _ s4 e4 lh H5 _ s5 e5=> ?_⟩;have s15:=(s13.trans s4).trans s5;have hz5:yG K H5 pa2 la2 f dy c zs:=⟨⟨pc,f0,f1,hc.same s15,s5 _ _ (s4 _ _ e3)⟩,s5 _ _ (s4 _ _ (s3 _ _ e2)),hz.2.2.1.same s15,hz.2.2.2⟩
 have hzo:=hz.same s15;have hY5:=hY.same s15;have el5:=s5 _ _ e4;have elo:=s15 _ _ el;have hL:=SqL.of (K:=K) e5;obtain⟨Gm,hG,hg,nn⟩:=zqJ f0 f1 hc.2 hz.2.2.2 hY;have gr0: ∀z∈ys,∀x,z.2.2.2= .grant x->0<=x:=λz hz' x e=>by
  obtain⟨i,hi,ez⟩:=List.mem_iff_getElem.mp hz';have ci:=(yO i z (by rw[Jb hi,ez])).2.2.2;rw[e] at ci;exact Int.le_trans 'd' ci.1
 refine⟨pa,le,la,f,dy,c,zs,ys,Gm,day,rfl,hzo,elo,hY5,hy0,hG,hg,nn,gr0,d1,λld ds us H6 wd k6 eu lu lmu=> ?_⟩;refine ixL (k6.sqL hL) (z5 _ _) (ixL (k6.sqL hL) (yY _ _ _) ⟨pa2,le2,la2,f,dy,c,zs,ys,Gm,day,rfl,hz5.kp k6,k6.lst el5,hY5.kp k6,hy0,hG,λ_ _ lf ds2 ws H7 wd2 frf dl2 k7' ew lw lmw=> ?_,λz=>absurd z 'o',λz=>absurd z 'o'⟩);obtain rfl:=zmo f0 f1 hc.2 wd wd2;have k7:=k6.trans k7';have eu7:=k7'.lst eu;have lu7:=lu.keep k7';refine⟨lf,ld,ws,us,rfl,ew,lw,eu7,lu7,by rw[lmu,lmw],λH8 s8=>⟨_,rfl,zW 'd' λl9 H9 _ s9 e9=> ?_⟩⟩;have k9:=k7.trans (Kp.of_same (s8.trans s9));refine neD (zjC (hz5.kp k9) (k9.lst el5) (k9.ens hY5.1) (k9.lst e5)) (zjC (hzo.kp k9) (k9.lst elo) (k9.ens hY5.1) e9) rfl 'd' ⟨_,rfl,zW 'd' ?_⟩;have fr9:Fr H6 lf:=frf;obtain⟨H10,hH10⟩: ∃H10,H10=upd H9 lf (.lst []):=⟨_,rfl⟩
 have k10:Kp H6 H10:=by rw[hH10];exact(k7'.trans (Kp.of_same (s8.trans s9))).put fr9
 have ew9:=s9 _ _ (s8 _ _ ew);simp only[zp9,uc,zgh,zgi];refine⟨.inl ⟨rfl,_,SqL.of ew9⟩,lf,_,rfl,rfl,ew9,?_⟩;rw[<-hH10];have k610:=k6.trans k10;refine ixL (k610.sqL hL) (z5 _ _) (ixL (k610.sqL hL) (yY _ _ _) ⟨pa2,le2,la2,f,dy,c,zs,ys,Gm,day,rfl,hz5.kp k610,k610.lst el5,hY5.kp k610,hy0,hG,λ_ _ lf3 ds3 ws3 H11 wd3 _ _ k11 ew3 lw3 lm3=> ?_,λz=>absurd z 'o',λz=>absurd z 'o'⟩);obtain rfl:=zmo f0 f1 hc.2 wd wd3;have k611:=k10.trans k11;exact⟨lf3,ld,ws3,us,rfl,ew3,lw3,k611.lst eu,lu.keep k611,by rw[lmu,lm3],λH12 _=>q H12⟩
end
theorem qv{P:List α->Prop}(h: ∀a0,P [a0])(us:List α)(l:us.length=1):P us:=match us,l with| [a0],_=>h a0
theorem qw{P:List α->Prop}(h: ∀a0 a1,P [a0,a1])(us:List α)(l:us.length=2):P us:=match us,l with| [a0,a1],_=>h a0 a1
theorem qh{P:List α->Prop}(h: ∀a0 a1 a2,P [a0,a1,a2])(us:List α)(l:us.length=3):P us:=match us,l with| [a0,a1,a2],_=>h a0 a1 a2
theorem ul{P:List α->Prop}(h: ∀a0 a1 a2 a3,P [a0,a1,a2,a3])(us:List α)(l:us.length=4):P us:=match us,l with| [a0,a1,a2,a3],_=>h a0 a1 a2 a3
theorem jB{P:List α->Prop}(h: ∀a0 a1 a2 a3 a4,P [a0,a1,a2,a3,a4])(us:List α)(l:us.length=5):P us:=match us,l with| [a0,a1,a2,a3,a4],_=>h a0 a1 a2 a3 a4
theorem zq4{P:List α->Prop}(h: ∀a0 a1 a2 a3 a4 a5,P [a0,a1,a2,a3,a4,a5])(us:List α)(l:us.length=6):P us:=match us,l with| [a0,a1,a2,a3,a4,a5],_=>h a0 a1 a2 a3 a4 a5
open PySem.W in
theorem txt_mk{w:World}{h:Heap}{mg:Str->Option Value}(X:K.In h)(G:h.Ns mainGlobals mg)
  (h0:L2.FA K "_wall" s_00)
  (h1:L2.FA K "has_leap_day" s_01)
  (h2:L2.FA K "days_in" s_02)
  (h3:L2.FA K "days_ahead_of_year" s_03)
  (h4:L2.FA K "day_of" s_04)
  (h5:L2.FA K "year_of" s_05)
  (h6:L2.FA K "date_of" s_06)
  (h7:L2.FA K "months_on" s_07)
  (h8:L2.FA K "begin_of" s_08)
  (h9:L2.FA K "span_on" s_09)
  (h10:L2.FA K "span_days" s_0a)
  (h11:L2.FA K "span_with" s_0b)
  (h12:L2.FA K "share" s_0c)
  (h13:L2.FA K "counts_from" s_0d)
  (h14:L2.FA K "in_order" s_0e)
  (h15:L2.FA K "state_by" s_0f)
  (h16:L2.FA K "stretches_by" s_0g)
  (h17:L2.FA K "price_and_count" s_0h)
  (h18:L2.FA K "stretch_cost" s_0i)
  (h19:L2.FA K "lines_ahead" s_0j)
  (h20:L2.FA K "cost_of" s_0k)
  (h21:L2.FA K "span_lines" s_0l)
  (h22:L2.FA K "span_cost" s_0m)
  (h23:L2.FA K "is_term" s_0n)
  (h24:L2.FA K "standing_terms" s_0o)
  (h25:L2.FA K "terms_at" s_0p)
  (h26:L2.FA K "costs_by" s_0q)
  (h27:L2.FA K "days_entered" s_0r)
  (h28:L2.FA K "work_days" s_0s)
  (h29:L2.FA K "grant_lines" s_0t)
  (h30:L2.FA K "line_of_less" s_0u)
  (h31:L2.FA K "line_of_more" s_0v)
  (h32:L2.FA K "right_lines" s_0w)
  (h33:L2.FA K "back_lines" s_0x)
  (h34:L2.FA K "work_of_day" s_0y)
  (h35:L2.FA K "keep_book" s_0z)
  (h36:L2.FA K "book_lines" s_10)
  (h37:L2.FA K "_law_mixed" s_11)
  (h38:L2.FA K "_law_draw" s_12)
  (h39:L2.FA K "_law_names" s_13)
  (h40:L2.FA K "_law_plans" s_14)
  (h41:L2.FA K "_law_account" s_15)
  (h42:L2.FA K "_law_reach" s_16)
  (h43:L2.FA K "_law_change" s_17)
  (h44:L2.FA K "_law_entries" s_18)
  (h45:L2.FA K "_law_case" s_19)
  (h46:L2.FA K "_law_take" s_1a)
  (h47:L2.FA K "_law_give" s_1b)
  (h48:L2.FA K "_law_right" s_1c)
  (h49:L2.FA K "_law_day" s_1d)
  (h50:L2.FA K "_law_due" s_1e)
  (h51:L2.FA K "_law_are_lines" s_1f)
  (h52:L2.FA K "law" s_1g)
  (h53:L2.FM K C_Z07 "__init__" "Pots.__init__" s_1h)
  (h54:L2.FM K C_Z07 "grant" "Pots.grant" s_1i)
  (h55:L2.FM K C_Z07 "take" "Pots.take" s_1j)
  (h56:L2.FM K C_Z07 "give" "Pots.give" s_1k)
  (h57:L2.FM K C_Z07 "pay_back" "Pots.pay_back" s_1l)
  (h58:L2.FM K C_Z07 "took" "Pots.took" s_1m)
  (h59:L2.FM K C_Z07 "left" "Pots.left" s_1n)
  (g_Z0a:nsIn K mainGlobals "SpanError"=some (some (.ref C_Z0a)))
  (gc_Z0a:clsIn K C_Z0a=some cd_Z0a)
  (gt_Z0a:typeIn K (.ref C_Z0a)=some (.type "type"))
  (gm_Z0a:mroIn K C_Z0a (.ref C_Z0a)=some true)
  (g_Z05:nsIn K mainGlobals "NoDate"=some (some (.ref C_Z05)))
  (gc_Z05:clsIn K C_Z05=some cd_Z05)
  (gt_Z05:typeIn K (.ref C_Z05)=some (.type "type"))
  (gm_Z05:mroIn K C_Z05 (.ref C_Z05)=some true)
  (g_Z06:nsIn K mainGlobals "NoSpan"=some (some (.ref C_Z06)))
  (gc_Z06:clsIn K C_Z06=some cd_Z06)
  (gt_Z06:typeIn K (.ref C_Z06)=some (.type "type"))
  (gm_Z06:mroIn K C_Z06 (.ref C_Z06)=some true)
  (g_Z0c:nsIn K mainGlobals "TooLong"=some (some (.ref C_Z0c)))
  (gc_Z0c:clsIn K C_Z0c=some cd_Z0c)
  (gt_Z0c:typeIn K (.ref C_Z0c)=some (.type "type"))
  (gm_Z0c:mroIn K C_Z0c (.ref C_Z0c)=some true)
  (g_Z07:nsIn K mainGlobals "Pots"=some (some (.ref C_Z07)))
  (gc_Z07:clsIn K C_Z07=some cd_Z07)
  (gt_Z07:typeIn K (.ref C_Z07)=some (.type "type"))
  (gm_Z07:mroIn K C_Z07 (.ref C_Z07)=some true)
  (op_Pots:plainGet K C_Z07 Str.empty=true)
  (od_Z07:hasDictIn K C_Z07=true)
  (oo_Pots:plainOver K C_Z07=true)
  (os_Pots:findIn K (.ref C_Z07) "__setattr__"=some (some (.builtin "object.__setattr__")))
  (om_Pots:makesIn K C_Z07=true)
  (ok_Z07:keepIn K (.ref C_Z07)=true)
  (on_Pots_given:findIn K (.ref C_Z07) "given"=some none)
  (on_Pots_own:findIn K (.ref C_Z07) "own"=some none)
  (on_Pots_taken:findIn K (.ref C_Z07) "taken"=some none)
  (gx_Z05:excIn K C_Z05 [.type "ValueError", .type "Exception", .type "BaseException", .type "object"] "ValueError.__new__"=true)
  (gx_Z06:excIn K C_Z06 [.type "ValueError", .type "Exception", .type "BaseException", .type "object"] "ValueError.__new__"=true)
  (gx_Z0c:excIn K C_Z0c [.type "ValueError", .type "Exception", .type "BaseException", .type "object"] "ValueError.__new__"=true)
  (k_Z03:nsIn K mainGlobals "LAST_YEAR"=some (some (.int 9999 tk_Z03)))
  (k_Z02:nsIn K mainGlobals "LAST_DAY"=some (some (.int 3652058 tk_Z02)))
  (k_Z04:nsIn K mainGlobals "MONTH_DAYS"=some (some (.ref A_Z04)))
  (kl_Z04:K.lookup A_Z04=some ⟨.type "tuple",od_Z04, .seq its_Z04 n_Z04,sl_Z04⟩)
  (kz_Z04:its_Z04.size<=sizeLine)
  (kv_Z04:zB [.int 31, .int 28, .int 31, .int 30, .int 31, .int 30, .int 31, .int 31, .int 30, .int 31, .int 30, .int 31] its_Z04.toList)
  (k_Z08:nsIn K mainGlobals "ROUND_DAYS"=some (some (.int 146097 tk_Z08)))
  (k_Z01:nsIn K mainGlobals "HUNDRED_YEARS_DAYS"=some (some (.int 36524 tk_Z01)))
  (k_Z00:nsIn K mainGlobals "FOUR_YEARS_DAYS"=some (some (.int 1461 tk_Z00)))
  (k_Z0e:nsIn K mainGlobals "YEAR_DAYS"=some (some (.int 365 tk_Z0e)))
  (k_Z09:nsIn K mainGlobals "SPANS"=some (some (.int 60 tk_Z09)))
  (k_Z0d:nsIn K mainGlobals "WORDS"=some (some (.ref A_Z0d)))
  (kl_Z0d:K.lookup A_Z0d=some ⟨.type "dict",none, .dict es_Z0d n_Z0d, #[]⟩)
  (kv_Z0d:uR w es_Z0d.toList [(SL [104,111,108,100], .str (SL [104,101,108,100])),(SL [103,111], .str (SL [111,110])),(SL [115,116,111,112], .str (SL [111,102,102])),(SL [108,97,115,116], .str (SL [111,102,102]))])
  (k_Z0b:nsIn K mainGlobals "TERMS"=some (some (.ref A_Z0b)))
  (kl_Z0b:K.lookup A_Z0b=some ⟨.type "tuple",od_Z0b, .seq its_Z0b n_Z0b,sl_Z0b⟩)
  (kz_Z0b:its_Z0b.size<=sizeLine)
  (kv_Z0b:zB [.str (SL [112,108,97,110]), .str (SL [115,101,97,116,115]), .str (SL [104,111,108,100]), .str (SL [103,111]), .str (SL [115,116,111,112]), .str (SL [108,97,115,116])] its_Z0b.toList)
  (z_range:nsIn K mainGlobals "range"=some none)
  (z_divmod:nsIn K mainGlobals "divmod"=some none)
  (z_min:nsIn K mainGlobals "min"=some none)
  (z_sorted:nsIn K mainGlobals "sorted"=some none)
  (z_sum:nsIn K mainGlobals "sum"=some none)
  (z_enumerate:nsIn K mainGlobals "enumerate"=some none)
  (z_list:nsIn K mainGlobals "list"=some none)
  (z_set:nsIn K mainGlobals "set"=some none)
  (z_len:nsIn K mainGlobals "len"=some none)
  (z_int:nsIn K mainGlobals "int"=some none)
  (z_isinstance:nsIn K mainGlobals "isinstance"=some none)
  (z_tuple:nsIn K mainGlobals "tuple"=some none)
  (z_str:nsIn K mainGlobals "str"=some none)
  (z_bool:nsIn K mainGlobals "bool"=some none)
  (xga_NoSpan:findIn K (.ref C_Z06) "__getattribute__"=some (some (.builtin "BaseException.__getattribute__")))
  (xgt_NoSpan:findIn K (.ref C_Z06) "__getattr__"=some none)
  (xcl_NoSpan:findIn K (.ref C_Z06) "__class__"=some (some (.builtin "object.__class__")))
  (xmo_NoSpan:mroIn K C_Z06 (.type "object")=some true)
  (xmb_NoSpan:mroIn K C_Z06 (.type "BaseException")=some true)
  (xga_TooLong:findIn K (.ref C_Z0c) "__getattribute__"=some (some (.builtin "BaseException.__getattribute__")))
  (xgt_TooLong:findIn K (.ref C_Z0c) "__getattr__"=some none)
  (xcl_TooLong:findIn K (.ref C_Z0c) "__class__"=some (some (.builtin "object.__class__")))
  (xmo_TooLong:mroIn K C_Z0c (.type "object")=some true)
  (xmb_TooLong:mroIn K C_Z0c (.type "BaseException")=some true)
  (m_NoSpan_SpanError:mroIn K C_Z06 (.ref C_Z0a)=some true)
  (m_NoSpan_NoDate:mroIn K C_Z06 (.ref C_Z05)=some false)
  (m_NoSpan_NoSpan:mroIn K C_Z06 (.ref C_Z06)=some true)
  (m_NoSpan_TooLong:mroIn K C_Z06 (.ref C_Z0c)=some false)
  (m_NoSpan_Pots:mroIn K C_Z06 (.ref C_Z07)=some false)
  (m_NoSpan_ValueError:mroIn K C_Z06 (.type "ValueError")=some true)
  (m_TooLong_SpanError:mroIn K C_Z0c (.ref C_Z0a)=some true)
  (m_TooLong_NoDate:mroIn K C_Z0c (.ref C_Z05)=some false)
  (m_TooLong_NoSpan:mroIn K C_Z0c (.ref C_Z06)=some false)
  (m_TooLong_TooLong:mroIn K C_Z0c (.ref C_Z0c)=some true)
  (m_TooLong_Pots:mroIn K C_Z0c (.ref C_Z07)=some false)
  (m_TooLong_ValueError:mroIn K C_Z0c (.type "ValueError")=some true)
  (m_SpanError_BaseException:mroIn K C_Z0a (.type "BaseException")=some true)
  : ∃t,Txt w K mg t:=
 ⟨{a_00:=h0.f,d_00:=h0.d,
   a_01:=h1.f,d_01:=h1.d,
   a_02:=h2.f,d_02:=h2.d,
   a_03:=h3.f,d_03:=h3.d,
   a_04:=h4.f,d_04:=h4.d,
   a_05:=h5.f,d_05:=h5.d,
   a_06:=h6.f,d_06:=h6.d,
   a_07:=h7.f,d_07:=h7.d,
   a_08:=h8.f,d_08:=h8.d,
   a_09:=h9.f,d_09:=h9.d,
   a_0a:=h10.f,d_0a:=h10.d,
   a_0b:=h11.f,d_0b:=h11.d,
   a_0c:=h12.f,d_0c:=h12.d,
   a_0d:=h13.f,d_0d:=h13.d,
   a_0e:=h14.f,d_0e:=h14.d,
   a_0f:=h15.f,d_0f:=h15.d,
   a_0g:=h16.f,d_0g:=h16.d,
   a_0h:=h17.f,d_0h:=h17.d,
   a_0i:=h18.f,d_0i:=h18.d,
   a_0j:=h19.f,d_0j:=h19.d,
   a_0k:=h20.f,d_0k:=h20.d,
   a_0l:=h21.f,d_0l:=h21.d,
   a_0m:=h22.f,d_0m:=h22.d,
   a_0n:=h23.f,d_0n:=h23.d,
   a_0o:=h24.f,d_0o:=h24.d,
   a_0p:=h25.f,d_0p:=h25.d,
   a_0q:=h26.f,d_0q:=h26.d,
   a_0r:=h27.f,d_0r:=h27.d,
   a_0s:=h28.f,d_0s:=h28.d,
   a_0t:=h29.f,d_0t:=h29.d,
   a_0u:=h30.f,d_0u:=h30.d,
   a_0v:=h31.f,d_0v:=h31.d,
   a_0w:=h32.f,d_0w:=h32.d,
   a_0x:=h33.f,d_0x:=h33.d,
   a_0y:=h34.f,d_0y:=h34.d,
   a_0z:=h35.f,d_0z:=h35.d,
   a_10:=h36.f,d_10:=h36.d,
   a_11:=h37.f,d_11:=h37.d,
   a_12:=h38.f,d_12:=h38.d,
   a_13:=h39.f,d_13:=h39.d,
   a_14:=h40.f,d_14:=h40.d,
   a_15:=h41.f,d_15:=h41.d,
   a_16:=h42.f,d_16:=h42.d,
   a_17:=h43.f,d_17:=h43.d,
   a_18:=h44.f,d_18:=h44.d,
   a_19:=h45.f,d_19:=h45.d,
   a_1a:=h46.f,d_1a:=h46.d,
   a_1b:=h47.f,d_1b:=h47.d,
   a_1c:=h48.f,d_1c:=h48.d,
   a_1d:=h49.f,d_1d:=h49.d,
   a_1e:=h50.f,d_1e:=h50.d,
   a_1f:=h51.f,d_1f:=h51.d,
   a_1g:=h52.f,d_1g:=h52.d,
   a_1h:=h53.f,d_1h:=h53.d,
   a_1i:=h54.f,d_1i:=h54.d,
   a_1j:=h55.f,d_1j:=h55.d,
   a_1k:=h56.f,d_1k:=h56.d,
   a_1l:=h57.f,d_1l:=h57.d,
   a_1m:=h58.f,d_1m:=h58.d,
   a_1n:=h59.f,d_1n:=h59.d,
   c_Z0a:=C_Z0a,
   c_Z05:=C_Z05,
   c_Z06:=C_Z06,
   c_Z0c:=C_Z0c,
   c_Z07:=C_Z07},
  {F_00:=h0.df X G (h0.fn.binds λ_ _ _ _ _ _=>qv λ_=>rfl),
   F_01:=h1.df X G (h1.fn.binds λ_ _ _ _ _ _=>qv λ_=>rfl),
   F_02:=h2.df X G (h2.fn.binds λ_ _ _ _ _ _=>qw λ_ _=>rfl),
   F_03:=h3.df X G (h3.fn.binds λ_ _ _ _ _ _=>qv λ_=>rfl),
   F_04:=h4.df X G (h4.fn.binds λ_ _ _ _ _ _=>qh λ_ _ _=>rfl),
   F_05:=h5.df X G (h5.fn.binds λ_ _ _ _ _ _=>qv λ_=>rfl),
   F_06:=h6.df X G (h6.fn.binds λ_ _ _ _ _ _=>qv λ_=>rfl),
   F_07:=h7.df X G (h7.fn.binds λ_ _ _ _ _ _=>qw λ_ _=>rfl),
   F_08:=h8.df X G (h8.fn.binds λ_ _ _ _ _ _=>qh λ_ _ _=>rfl),
   F_09:=h9.df X G (h9.fn.binds λ_ _ _ _ _ _=>qh λ_ _ _=>rfl),
   F_0a:=h10.df X G (h10.fn.binds λ_ _ _ _ _ _=>qw λ_ _=>rfl),
   F_0b:=h11.df X G (h11.fn.binds λ_ _ _ _ _ _=>qw λ_ _=>rfl),
   F_0c:=h12.df X G (h12.fn.binds λ_ _ _ _ _ _=>ul λ_ _ _ _=>rfl),
   F_0d:=h13.df X G (h13.fn.binds λ_ _ _ _ _ _=>qw λ_ _=>rfl),
   F_0e:=h14.df X G (h14.fn.binds λ_ _ _ _ _ _=>qw λ_ _=>rfl),
   F_0f:=h15.df X G (h15.fn.binds λ_ _ _ _ _ _=>qw λ_ _=>rfl),
   F_0g:=h16.df X G (h16.fn.binds λ_ _ _ _ _ _=>qh λ_ _ _=>rfl),
   F_0h:=h17.df X G (h17.fn.binds λ_ _ _ _ _ _=>qw λ_ _=>rfl),
   F_0i:=h18.df X G (h18.fn.binds λ_ _ _ _ _ _=>qh λ_ _ _=>rfl),
   F_0j:=h19.df X G (h19.fn.binds λ_ _ _ _ _ _=>ul λ_ _ _ _=>rfl),
   F_0k:=h20.df X G (h20.fn.binds λ_ _ _ _ _ _=>qv λ_=>rfl),
   F_0l:=h21.df X G (h21.fn.binds λ_ _ _ _ _ _=>qh λ_ _ _=>rfl),
   F_0m:=h22.df X G (h22.fn.binds λ_ _ _ _ _ _=>qh λ_ _ _=>rfl),
   F_0n:=h23.df X G (h23.fn.binds λ_ _ _ _ _ _=>qv λ_=>rfl),
   F_0o:=h24.df X G (h24.fn.binds λ_ _ _ _ _ _=>qv λ_=>rfl),
   F_0p:=h25.df X G (h25.fn.binds λ_ _ _ _ _ _=>qw λ_ _=>rfl),
   F_0q:=h26.df X G (h26.fn.binds λ_ _ _ _ _ _=>ul λ_ _ _ _=>rfl),
   F_0r:=h27.df X G (h27.fn.binds λ_ _ _ _ _ _=>qv λ_=>rfl),
   F_0s:=h28.df X G (h28.fn.binds λ_ _ _ _ _ _=>qh λ_ _ _=>rfl),
   F_0t:=h29.df X G (h29.fn.binds λ_ _ _ _ _ _=>qh λ_ _ _=>rfl),
   F_0u:=h30.df X G (h30.fn.binds λ_ _ _ _ _ _=>ul λ_ _ _ _=>rfl),
   F_0v:=h31.df X G (h31.fn.binds λ_ _ _ _ _ _=>jB λ_ _ _ _ _=>rfl),
   F_0w:=h32.df X G (h32.fn.binds λ_ _ _ _ _ _=>qh λ_ _ _=>rfl),
   F_0x:=h33.df X G (h33.fn.binds λ_ _ _ _ _ _=>qh λ_ _ _=>rfl),
   F_0y:=h34.df X G (h34.fn.binds λ_ _ _ _ _ _=>ul λ_ _ _ _=>rfl),
   F_0z:=h35.df X G (h35.fn.binds λ_ _ _ _ _ _=>qh λ_ _ _=>rfl),
   F_10:=h36.df X G (h36.fn.binds λ_ _ _ _ _ _=>qh λ_ _ _=>rfl),
   F_11:=h37.df X G (h37.fn.binds λ_ _ _ _ _ _=>qw λ_ _=>rfl),
   F_12:=h38.df X G (h38.fn.binds λ_ _ _ _ _ _=>qw λ_ _=>rfl),
   F_13:=h39.df X G (h39.fn.binds λ_ _ _ _ _ _=>qv λ_=>rfl),
   F_14:=h40.df X G (h40.fn.binds λ_ _ _ _ _ _=>qw λ_ _=>rfl),
   F_15:=h41.df X G (h41.fn.binds λ_ _ _ _ _ _=>qv λ_=>rfl),
   F_16:=h42.df X G (h42.fn.binds λ_ _ _ _ _ _=>qw λ_ _=>rfl),
   F_17:=h43.df X G (h43.fn.binds λ_ _ _ _ _ _=>zq4 λ_ _ _ _ _ _=>rfl),
   F_18:=h44.df X G (h44.fn.binds λ_ _ _ _ _ _=>jB λ_ _ _ _ _=>rfl),
   F_19:=h45.df X G (h45.fn.binds λ_ _ _ _ _ _=>qv λ_=>rfl),
   F_1a:=h46.df X G (h46.fn.binds λ_ _ _ _ _ _=>qh λ_ _ _=>rfl),
   F_1b:=h47.df X G (h47.fn.binds λ_ _ _ _ _ _=>qh λ_ _ _=>rfl),
   F_1c:=h48.df X G (h48.fn.binds λ_ _ _ _ _ _=>jB λ_ _ _ _ _=>rfl),
   F_1d:=h49.df X G (h49.fn.binds λ_ _ _ _ _ _=>jB λ_ _ _ _ _=>rfl),
   F_1e:=h50.df X G (h50.fn.binds λ_ _ _ _ _ _=>qh λ_ _ _=>rfl),
   F_1f:=h51.df X G (h51.fn.binds λ_ _ _ _ _ _=>qw λ_ _=>rfl),
   F_1g:=h52.df X G (h52.fn.binds λ_ _ _ _ _ _=>qv λ_=>rfl),
   me_1h:=h53.me,
   fn_1h:=h53.fn,
   b_1h:=h53.fn.binds λ_ _ _ _ _ _=>qv λ_=>rfl,
   me_1i:=h54.me,
   fn_1i:=h54.fn,
   b_1i:=h54.fn.binds λ_ _ _ _ _ _=>qw λ_ _=>rfl,
   me_1j:=h55.me,
   fn_1j:=h55.fn,
   b_1j:=h55.fn.binds λ_ _ _ _ _ _=>qh λ_ _ _=>rfl,
   me_1k:=h56.me,
   fn_1k:=h56.fn,
   b_1k:=h56.fn.binds λ_ _ _ _ _ _=>qh λ_ _ _=>rfl,
   me_1l:=h57.me,
   fn_1l:=h57.fn,
   b_1l:=h57.fn.binds λ_ _ _ _ _ _=>qv λ_=>rfl,
   me_1m:=h58.me,
   fn_1m:=h58.fn,
   b_1m:=h58.fn.binds λ_ _ _ _ _ _=>qw λ_ _=>rfl,
   me_1n:=h59.me,
   fn_1n:=h59.fn,
   b_1n:=h59.fn.binds λ_ _ _ _ _ _=>qv λ_=>rfl,
   mg_Z0a:=mg_of X G g_Z0a,
   cl_Z0a:=⟨by rw[gc_Z0a];rfl,gt_Z0a,gm_Z0a⟩,
   mg_Z05:=mg_of X G g_Z05,
   cl_Z05:=⟨by rw[gc_Z05];rfl,gt_Z05,gm_Z05⟩,
   mg_Z06:=mg_of X G g_Z06,
   cl_Z06:=⟨by rw[gc_Z06];rfl,gt_Z06,gm_Z06⟩,
   mg_Z0c:=mg_of X G g_Z0c,
   cl_Z0c:=⟨by rw[gc_Z0c];rfl,gt_Z0c,gm_Z0c⟩,
   mg_Z07:=mg_of X G g_Z07,
   cl_Z07:=⟨by rw[gc_Z07];rfl,gt_Z07,gm_Z07⟩,
   cs_Z07:=⟨op_Pots,od_Z07,oo_Pots,os_Pots⟩,
   mk_Z07:=⟨om_Pots,h53.me.at_,h53.me.fn,ok_Z07⟩,
   na_Pots_given:=on_Pots_given,
   na_Pots_own:=on_Pots_own,
   na_Pots_taken:=on_Pots_taken,
   ex_Z05:=⟨_,_,_,PySem.F.excBase_ValueError,gx_Z05⟩,
   ex_Z06:=⟨_,_,_,PySem.F.excBase_ValueError,gx_Z06⟩,
   ex_Z0c:=⟨_,_,_,PySem.F.excBase_ValueError,gx_Z0c⟩,
   k_Z03:=⟨_,mg_of X G k_Z03,⟨_,rfl⟩⟩,
   k_Z02:=⟨_,mg_of X G k_Z02,⟨_,rfl⟩⟩,
   k_Z04:=⟨A_Z04,mg_of X G k_Z04,λH=> .inr ⟨_,its_Z04,n_Z04,kl_Z04,rfl,rfl,kz_Z04,kv_Z04⟩⟩,
   k_Z08:=⟨_,mg_of X G k_Z08,⟨_,rfl⟩⟩,
   k_Z01:=⟨_,mg_of X G k_Z01,⟨_,rfl⟩⟩,
   k_Z00:=⟨_,mg_of X G k_Z00,⟨_,rfl⟩⟩,
   k_Z0e:=⟨_,mg_of X G k_Z0e,⟨_,rfl⟩⟩,
   k_Z09:=⟨_,mg_of X G k_Z09,⟨_,rfl⟩⟩,
   k_Z0d:=⟨A_Z0d,es_Z0d,n_Z0d,mg_of X G k_Z0d,kl_Z0d,kv_Z0d,'d'⟩,
   k_Z0b:=⟨A_Z0b,mg_of X G k_Z0b,λH=> .inr ⟨_,its_Z0b,n_Z0b,kl_Z0b,rfl,rfl,kz_Z0b,kv_Z0b⟩⟩,
   no_range:=mg_none_of X G z_range,
   no_divmod:=mg_none_of X G z_divmod,
   no_min:=mg_none_of X G z_min,
   no_sorted:=mg_none_of X G z_sorted,
   no_sum:=mg_none_of X G z_sum,
   no_enumerate:=mg_none_of X G z_enumerate,
   no_list:=mg_none_of X G z_list,
   no_set:=mg_none_of X G z_set,
   no_len:=mg_none_of X G z_len,
   no_int:=mg_none_of X G z_int,
   no_isinstance:=mg_none_of X G z_isinstance,
   no_tuple:=mg_none_of X G z_tuple,
   no_str:=mg_none_of X G z_str,
   no_bool:=mg_none_of X G z_bool,
   xc_NoSpan:=⟨by rw[gc_Z06];rfl,xga_NoSpan,xgt_NoSpan,xcl_NoSpan,xmo_NoSpan,xmb_NoSpan⟩,
   xc_TooLong:=⟨by rw[gc_Z0c];rfl,xga_TooLong,xgt_TooLong,xcl_TooLong,xmo_TooLong,xmb_TooLong⟩,
   m_NoSpan_SpanError:=m_NoSpan_SpanError,
   m_NoSpan_NoDate:=m_NoSpan_NoDate,
   m_NoSpan_NoSpan:=m_NoSpan_NoSpan,
   m_NoSpan_TooLong:=m_NoSpan_TooLong,
   m_NoSpan_Pots:=m_NoSpan_Pots,
   m_NoSpan_ValueError:=m_NoSpan_ValueError,
   m_TooLong_SpanError:=m_TooLong_SpanError,
   m_TooLong_NoDate:=m_TooLong_NoDate,
   m_TooLong_NoSpan:=m_TooLong_NoSpan,
   m_TooLong_TooLong:=m_TooLong_TooLong,
   m_TooLong_Pots:=m_TooLong_Pots,
   m_TooLong_ValueError:=m_TooLong_ValueError,
   m_SpanError_BaseException:=m_SpanError_BaseException}⟩
theorem bind_law{w:World}{mg:Str->Option Value}{t:Adr}(T:Txt w K mg t): ∀(s:Shared) (u:Value),BindsTo s t.d_1g ⟨[u], []⟩ [("_law_script",u)]:=by
 obtain⟨oc,od,kV,doc,pm,an,cdv,ct,osl,e,lk,hcd⟩:=T.F_1g.fn.ex;intro s u;rw[e];exact .of_eq rfl
theorem walk{l:PySem.W.OpenLaw}{q:Program}{loose:List Str}{XP:(Str->Option Value)->Heap->Prop}{YP:World->Heap->Prop}{d:DefRec}{K:Params->Fg}(hn:l.most=some 63)(hdf:d.params.defaults= [])
  (hY: ∀(w:World) (h:Heap),YP w h->(K w.params).In h)
  (F: ∀(w:World) (mg:Str->Option Value) (fa:Addr) (h:Heap),(K w.params).In h->h.Ns mainGlobals mg->mg d.name=some (.ref fa)->
   ∃fd:FuncData,(∀(s:Shared) (u:Value),BindsTo s fd ⟨[u], []⟩ [("_law_script",u)])/\ ∀base:Heap,(K w.params).In base->base.Ns mainGlobals mg->FnOk l.prog w (K w.params) mg base (CXE l.prog w) 30 fa fd ["_law_script"] (zmt (K w.params))):
  PySem.W.WalkO q loose XP YP l.row.toRowW d [] (λf vs=>PySem.call f vs):=
 L2.walk_of (n:=63) (k:=30) (x:="_law_script") (CX:=λw=>CXE l.prog w) (sp:=λw=>zmt (K w.params)) hn 'd' hdf ⟨rfl,'d','d'⟩ hY F (λ_ _ a ns hl _ hS=>⟨a,ns,rfl,hS,hl,λ_=>rfl⟩) λ_ _ _ _ _ ⟨_,_,_,_,_,z⟩=>z
end K61
namespace PySem.W.Fast
theorem tw10030333967601518727:True:=⟨⟩
theorem tw2536952304667449122:True:=⟨⟩
theorem tw6092463706762512748:True:=⟨⟩
theorem tw18355238923132902446:True:=⟨⟩
theorem tw1710342159239631111:True:=⟨⟩
theorem tw12458090549053872428:True:=⟨⟩
theorem tw16564160156716324692:True:=⟨⟩
theorem tw4730767381375209504:True:=⟨⟩
theorem tw73240408630441205:True:=⟨⟩
theorem tw8368935325093606105:True:=⟨⟩
theorem tw10576921443890931444:True:=⟨⟩
theorem tw16199616379394359163:True:=⟨⟩
theorem tw940194721403532758:True:=⟨⟩
theorem tw13730091365098340016:True:=⟨⟩
theorem tw17423143179264053974:True:=⟨⟩
theorem tw949250382587182921:True:=⟨⟩
theorem tw9505882388331092343:True:=⟨⟩
theorem tw10915369960521573524:True:=⟨⟩
theorem tw10400192846135955266:True:=⟨⟩
theorem tw5051540496195699351:True:=⟨⟩
theorem tw3752220516765803319:True:=⟨⟩
theorem tw6890345538538798701:True:=⟨⟩
theorem tw6177090812628668355:True:=⟨⟩
theorem tw3026598169535551256:True:=⟨⟩
theorem tw9677200081594655626:True:=⟨⟩
theorem tw8685390423148936399:True:=⟨⟩
theorem tw10393848642338680892:True:=⟨⟩
theorem tw17365972495191931871:True:=⟨⟩
theorem tw16019191534914635839:True:=⟨⟩
theorem tw10417272298013482528:True:=⟨⟩
theorem tw15430191149913745651:True:=⟨⟩
theorem tw6581792611624423592:True:=⟨⟩
theorem tw16631102447170830281:True:=⟨⟩
theorem tw8582410516974744550:True:=⟨⟩
theorem tw14555502171926370722:True:=⟨⟩
theorem tw4759398903640584680:True:=⟨⟩
theorem tw6397482171173942076:True:=⟨⟩
theorem tw1430056917328842327:True:=⟨⟩
theorem tw208659299064921653:True:=⟨⟩
theorem tw2981421497673283317:True:=⟨⟩
theorem tw11180665263162589888:True:=⟨⟩
theorem tw15341574363091829077:True:=⟨⟩
theorem tw7683068501974355624:True:=⟨⟩
theorem tw8310875105944625253:True:=⟨⟩
theorem tw17069513733262635761:True:=⟨⟩
theorem tw2112056232242388126:True:=⟨⟩
theorem tw12444125628572281060:True:=⟨⟩
theorem tw11473796666336836903:True:=⟨⟩
theorem tw7441964378228266591:True:=⟨⟩
theorem tw10206037403614845771:True:=⟨⟩
theorem tw11161335259087188242:True:=⟨⟩
theorem tw9889243801856884148:True:=⟨⟩
theorem tw10472719708808245931:True:=⟨⟩
theorem tw9050211409178201153:True:=⟨⟩
theorem tw5751525191879479268:True:=⟨⟩
theorem tw7410462894459074348:True:=⟨⟩
theorem tw1221322931450278607:True:=⟨⟩
theorem tw4728557097860845894:True:=⟨⟩
theorem tw13398440738340277069:True:=⟨⟩
theorem tw2894695899267525906:True:=⟨⟩
theorem tw9609030943484794745:True:=⟨⟩
theorem tw10332536798260314370:True:=⟨⟩
theorem tw12535955013712962058:True:=⟨⟩
theorem tw11479401382518194166:True:=⟨⟩
theorem tw5328264158312093714:True:=⟨⟩
theorem tw8513943297783075828:True:=⟨⟩
theorem tw9199699817932046121:True:=⟨⟩
theorem tw8745364251038881559:True:=⟨⟩
theorem tw11417453081230241238:True:=⟨⟩
theorem tw16703210352965081527:True:=⟨⟩
theorem tw17714558016651073946:True:=⟨⟩
theorem tw6576813267121567916:True:=⟨⟩
theorem tw7047529025899985234:True:=⟨⟩
theorem tw4845408743350799626:True:=⟨⟩
theorem tw3173904298926855174:True:=⟨⟩
theorem tw641302935921213807:True:=⟨⟩
theorem tw7133975086275622151:True:=⟨⟩
theorem tw2186884135306375772:True:=⟨⟩
theorem tw6857944455887437993:True:=⟨⟩
theorem tw18136301729256185478:True:=⟨⟩
theorem tw449363527076894536:True:=⟨⟩
theorem tw13150209058191305981:True:=⟨⟩
theorem tw6566009717681313633:True:=⟨⟩
theorem tw1676537470099682594:True:=⟨⟩
theorem tw5857249866409746271:True:=⟨⟩
theorem tw8439830274850767470:True:=⟨⟩
theorem tw8815977694709114532:True:=⟨⟩
theorem tw13905597385705152324:True:=⟨⟩
theorem tw17653530298704556314:True:=⟨⟩
theorem tw5615718531709711143:True:=⟨⟩
theorem tw18002967161458941283:True:=⟨⟩
theorem tw1912942660292281980:True:=⟨⟩
theorem tw9244313146080324981:True:=⟨⟩
theorem tw7532332098548365503:True:=⟨⟩
theorem tw7990468813728803102:True:=⟨⟩
theorem tw7351103799295341881:True:=⟨⟩
theorem tw9122710049455707958:True:=⟨⟩
theorem tw5069516335897688438:True:=⟨⟩
theorem tw11486598417465552383:True:=⟨⟩
theorem tw4676931957292588889:True:=⟨⟩
theorem tw7529732254537169381:True:=⟨⟩
theorem tw5323502360968587542:True:=⟨⟩
theorem tw1527157223909898958:True:=⟨⟩
theorem tw3310563492228238154:True:=⟨⟩
theorem tw1301971074305014656:True:=⟨⟩
theorem tw6360215243883683731:True:=⟨⟩
theorem tw954140127522146380:True:=⟨⟩
theorem tw12142508302345960908:True:=⟨⟩
theorem tw5066404677509689392:True:=⟨⟩
theorem tw431643040417754323:True:=⟨⟩
theorem tw8615034046732042223:True:=⟨⟩
theorem tw7887846973791120180:True:=⟨⟩
theorem tw6900301957178147255:True:=⟨⟩
theorem tw16845358742597889156:True:=⟨⟩
theorem tw6442000501713213789:True:=⟨⟩
theorem tw7773858480085669260:True:=⟨⟩
theorem tw14244139084658008614:True:=⟨⟩
theorem tw3374828894011260838:True:=⟨⟩
theorem tw15314233905575865710:True:=⟨⟩
theorem tw13537814942600072744:True:=⟨⟩
theorem tw12744999985399663850:True:=⟨⟩
theorem tw8778873968374560832:True:=⟨⟩
theorem tw5157921376784859806:True:=⟨⟩
theorem tw6138967188021979320:True:=⟨⟩
theorem tw12230288364693287063:True:=⟨⟩
theorem tw15209797145128585471:True:=⟨⟩
theorem tw15894306684880945976:True:=⟨⟩
theorem tw12517043390554326621:True:=⟨⟩
theorem tw10645035138204022130:True:=⟨⟩
theorem tw10348982232419945518:True:=⟨⟩
theorem tw6145142996873130798:True:=⟨⟩
theorem tw6229516633620767781:True:=⟨⟩
theorem tw5132186390845460089:True:=⟨⟩
theorem tw16664815417833356139:True:=⟨⟩
theorem tw6481008960279010370:True:=⟨⟩
theorem tw2931638656250030423:True:=⟨⟩
theorem tw17674367231083942889:True:=⟨⟩
theorem tw8726727407258613355:True:=⟨⟩
theorem tw17767630096012646327:True:=⟨⟩
theorem tw14581460399154329489:True:=⟨⟩
theorem tw14024324853375269187:True:=⟨⟩
theorem tw5617157017814060044:True:=⟨⟩
theorem tw18414659231362695966:True:=⟨⟩
theorem tw5954493217879234739:True:=⟨⟩
theorem tw11357814328719304579:True:=⟨⟩
theorem tw18342045956936723189:True:=⟨⟩
theorem tw2164016167488073173:True:=⟨⟩
theorem tw6422496934260246269:True:=⟨⟩
theorem tw5781899877558763824:True:=⟨⟩
theorem tw4372889964906636190:True:=⟨⟩
theorem tw7003961118996982435:True:=⟨⟩
theorem tw2181315437763089292:True:=⟨⟩
theorem tw8488221355866204185:True:=⟨⟩
theorem tw15753729952149853116:True:=⟨⟩
theorem tw4801325971940625489:True:=⟨⟩
theorem tw2532956917928763943:True:=⟨⟩
theorem tw2855070366934987990:True:=⟨⟩
theorem tw14933702691887665971:True:=⟨⟩
theorem tw28672009214306351:True:=⟨⟩
theorem tw7830955627699445718:True:=⟨⟩
theorem tw14443501298721806089:True:=⟨⟩
theorem tw9034284803113993706:True:=⟨⟩
theorem tw7931991216836061522:True:=⟨⟩
theorem tw11907497224522402092:True:=⟨⟩
theorem tw14919205536972263755:True:=⟨⟩
theorem tw16155613993752215:True:=⟨⟩
theorem tw2434499319581437532:True:=⟨⟩
theorem tw9364651645688634544:True:=⟨⟩
theorem tw13946339263053606414:True:=⟨⟩
theorem tw4329918233035688710:True:=⟨⟩
theorem tw9148634867595549067:True:=⟨⟩
theorem tw16054451996540353217:True:=⟨⟩
theorem tw16440179491920783222:True:=⟨⟩
theorem tw17338085606719700054:True:=⟨⟩
theorem tw15177977361873261721:True:=⟨⟩
theorem tw8117991854758637626:True:=⟨⟩
theorem tw15212139387509183570:True:=⟨⟩
theorem tw17228351994607646962:True:=⟨⟩
theorem tw16476959422069139029:True:=⟨⟩
theorem tw15586262588537433372:True:=⟨⟩
theorem tw6395094508803004723:True:=⟨⟩
theorem tw8395597662694364005:True:=⟨⟩
theorem tw3860462796711890977:True:=⟨⟩
theorem tw13248789629815512718:True:=⟨⟩
theorem tw5643977737014154427:True:=⟨⟩
theorem tw13708112223879715488:True:=⟨⟩
theorem tw4912257064170139973:True:=⟨⟩
theorem tw8736452266472503143:True:=⟨⟩
theorem tw10886574265185364966:True:=⟨⟩
theorem tw514452382580482295:True:=⟨⟩
theorem tw3529418305301680139:True:=⟨⟩
theorem tw13255262006648961424:True:=⟨⟩
theorem tw12244527152008226006:True:=⟨⟩
theorem tw16013443504970754188:True:=⟨⟩
theorem tw9892310444654411948:True:=⟨⟩
theorem tw12642281105681889888:True:=⟨⟩
theorem tw9464542264250427897:True:=⟨⟩
theorem tw11814116551328663039:True:=⟨⟩
theorem tw2977473414468684161:True:=⟨⟩
theorem tw9569196779640993143:True:=⟨⟩
theorem tw5863168118620602251:True:=⟨⟩
theorem tw4070812471572284006:True:=⟨⟩
theorem tw11527247936182505841:True:=⟨⟩
theorem tw16878508301863278578:True:=⟨⟩
theorem tw17108269232464262522:True:=⟨⟩
theorem tw6432528787464781503:True:=⟨⟩
theorem tw10008313484475679359:True:=⟨⟩
theorem tw10957864662982284639:True:=⟨⟩
theorem tw15425031541987946985:True:=⟨⟩
theorem tw3404514799974996715:True:=⟨⟩
theorem tw3675976510008196791:True:=⟨⟩
theorem tw514183723775002967:True:=⟨⟩
theorem tw559209640223156709:True:=⟨⟩
theorem tw2454452465682942268:True:=⟨⟩
theorem tw13070283639357423722:True:=⟨⟩
theorem tw13443003426677252125:True:=⟨⟩
theorem tw16765920522460191823:True:=⟨⟩
theorem tw4112733663800798164:True:=⟨⟩
theorem tw1065597920819994790:True:=⟨⟩
theorem tw6839195842082704849:True:=⟨⟩
theorem tw9673085006154102035:True:=⟨⟩
theorem tw7896906875880063889:True:=⟨⟩
theorem tw8448039301181854450:True:=⟨⟩
theorem tw7887158926475779134:True:=⟨⟩
theorem tw3955010786417257576:True:=⟨⟩
theorem tw2480166094957699673:True:=⟨⟩
theorem tw10384205974028524984:True:=⟨⟩
theorem tw12149562871307541969:True:=⟨⟩
theorem tw17893621285404743861:True:=⟨⟩
theorem tw3631732143780894015:True:=⟨⟩
theorem tw2428807109046323211:True:=⟨⟩
theorem tw11942568144212329048:True:=⟨⟩
theorem tw7353569212847803428:True:=⟨⟩
theorem tw12621617335908739780:True:=⟨⟩
theorem tw9532135059824706231:True:=⟨⟩
theorem tw12249679020354211002:True:=⟨⟩
theorem tw13307246706396516623:True:=⟨⟩
theorem tw4412743405325974750:True:=⟨⟩
theorem tw17675380653815692422:True:=⟨⟩
theorem tw8647117832624343139:True:=⟨⟩
theorem tw16119384714751677006:True:=⟨⟩
theorem tw12783239180726389423:True:=⟨⟩
theorem tw9171532180698113935:True:=⟨⟩
theorem tw12839847723893016002:True:=⟨⟩
theorem tw15827448865406420439:True:=⟨⟩
theorem tw9136117441350890952:True:=⟨⟩
theorem tw11297188533035178810:True:=⟨⟩
theorem tw3683836353335134454:True:=⟨⟩
theorem tw7096338837352545177:True:=⟨⟩
theorem tw9322711187118249335:True:=⟨⟩
theorem tw18138982638448623253:True:=⟨⟩
theorem tw10629205048895922631:True:=⟨⟩
theorem tw11084176915267409439:True:=⟨⟩
theorem tw3822114581338421226:True:=⟨⟩
theorem tw9299488302444100503:True:=⟨⟩
theorem tw11280997731687532889:True:=⟨⟩
theorem tw6342984239867003674:True:=⟨⟩
theorem tw7061951214248369346:True:=⟨⟩
theorem tw16532467082173830898:True:=⟨⟩
theorem tw12125340348080390633:True:=⟨⟩
theorem tw17847281776012844296:True:=⟨⟩
theorem tw4808054721585324655:True:=⟨⟩
theorem tw2944352810776151221:True:=⟨⟩
theorem tw9335120166817560145:True:=⟨⟩
theorem tw3020402059797259142:True:=⟨⟩
theorem tw16416997380483157985:True:=⟨⟩
theorem tw8400275568532405410:True:=⟨⟩
theorem tw5241751447019952444:True:=⟨⟩
theorem tw12338620181652173058:True:=⟨⟩
theorem tw17382496399585089055:True:=⟨⟩
theorem tw13084596418281869836:True:=⟨⟩
theorem tw2058083379187178664:True:=⟨⟩
theorem tw6651545118128185163:True:=⟨⟩
theorem tw2441670558666596727:True:=⟨⟩
theorem tw9394982742732940087:True:=⟨⟩
theorem tw1464362509899902440:True:=⟨⟩
theorem tw16821498233034555805:True:=⟨⟩
theorem tw17869521947872310101:True:=⟨⟩
theorem tw8173877304842692779:True:=⟨⟩
theorem tw8607764769003700115:True:=⟨⟩
theorem tw11647466111593293929:True:=⟨⟩
theorem tw13177304111000454151:True:=⟨⟩
theorem tw11093877758365853296:True:=⟨⟩
theorem tw5180544135308990008:True:=⟨⟩
theorem tw15885638824838208324:True:=⟨⟩
set_option maxRecDepth 100000 in
def tw6838713868877468544:PySem.Program:=PySem.Challenge.pw_paidspan_k61_lines_of_a_book
set_option maxRecDepth 100000 in
theorem te6838713868877468544:PySem.Challenge.pw_paidspan_k61_lines_of_a_book=tw6838713868877468544:=rfl
end PySem.W.Fast
open PySem PySem.W PyProof.Rows
set_option maxRecDepth 100000 in
set_option maxHeartbeats 0 in
theorem PySem.Challenge.cw_paidspan_k61_lines_of_a_book_holds : PySem.Challenge.rw_paidspan_k61_lines_of_a_book.Holds := by
 w_on;o_law;k_head;(case hw=>w_witness2)
 k_fill
 refine K61.walk (l:=PySem.Challenge.rw_paidspan_k61_lines_of_a_book) rfl rfl (λw h Y=>PySem.W.kIn_of Y) ?F
 case F=>
  intro w mg fa h KX G hmg
  have T: ∃t,K61.Txt w (L2.KOf KX) mg t:=by
   dsimp only[L2.KOf]
   refine' K61.txt_mk KX G ?h0 ?h1 ?h2 ?h3 ?h4 ?h5 ?h6 ?h7 ?h8 ?h9 ?h10 ?h11 ?h12 ?h13 ?h14 ?h15 ?h16 ?h17 ?h18 ?h19 ?h20 ?h21 ?h22 ?h23 ?h24 ?h25 ?h26 ?h27 ?h28 ?h29 ?h30 ?h31 ?h32 ?h33 ?h34 ?h35 ?h36 ?h37 ?h38 ?h39 ?h40 ?h41 ?h42 ?h43 ?h44 ?h45 ?h46 ?h47 ?h48 ?h49 ?h50 ?h51 ?h52 ?h53 ?h54 ?h55 ?h56 ?h57 ?h58 ?h59 ?g_Z0a ?gc_Z0a ?gt_Z0a ?gm_Z0a ?g_Z05 ?gc_Z05 ?gt_Z05 ?gm_Z05 ?g_Z06 ?gc_Z06 ?gt_Z06 ?gm_Z06 ?g_Z0c ?gc_Z0c ?gt_Z0c ?gm_Z0c ?g_Z07 ?gc_Z07 ?gt_Z07 ?gm_Z07 ?op_Pots ?od_Z07 ?oo_Pots ?os_Pots ?om_Pots ?ok_Z07 ?on_Pots_given ?on_Pots_own ?on_Pots_taken ?gx_Z05 ?gx_Z06 ?gx_Z0c ?k_Z03 ?k_Z02 ?k_Z04 ?kl_Z04 ?kz_Z04 ?kv_Z04 ?k_Z08 ?k_Z01 ?k_Z00 ?k_Z0e ?k_Z09 ?k_Z0d ?kl_Z0d ?kv_Z0d ?k_Z0b ?kl_Z0b ?kz_Z0b ?kv_Z0b ?z_range ?z_divmod ?z_min ?z_sorted ?z_sum ?z_enumerate ?z_list ?z_set ?z_len ?z_int ?z_isinstance ?z_tuple ?z_str ?z_bool ?xga_NoSpan ?xgt_NoSpan ?xcl_NoSpan ?xmo_NoSpan ?xmb_NoSpan ?xga_TooLong ?xgt_TooLong ?xcl_TooLong ?xmo_TooLong ?xmb_TooLong ?m_NoSpan_SpanError ?m_NoSpan_NoDate ?m_NoSpan_NoSpan ?m_NoSpan_TooLong ?m_NoSpan_Pots ?m_NoSpan_ValueError ?m_TooLong_SpanError ?m_TooLong_NoDate ?m_TooLong_NoSpan ?m_TooLong_TooLong ?m_TooLong_Pots ?m_TooLong_ValueError ?m_SpanError_BaseException
   (case g_Z0a|g_Z05|g_Z06|g_Z0c|g_Z07=>k_is)
   (case h0|h1|h2|h3|h4|h5|h6|h7=>(refine' L2.FA.mk ?a ?l ?c ?k;(case a|l|c|k=>k_is)))
   (case h8|h9|h10|h11|h12|h13|h14|h15=>(refine' L2.FA.mk ?a ?l ?c ?k;(case a|l|c|k=>k_is)))
   (case h16|h17|h18|h19|h20|h21|h22|h23=>(refine' L2.FA.mk ?a ?l ?c ?k;(case a|l|c|k=>k_is)))
   (case h24|h25|h26|h27|h28|h29|h30|h31=>(refine' L2.FA.mk ?a ?l ?c ?k;(case a|l|c|k=>k_is)))
   (case h32|h33|h34|h35|h36|h37|h38|h39=>(refine' L2.FA.mk ?a ?l ?c ?k;(case a|l|c|k=>k_is)))
   (case h40|h41|h42|h43|h44|h45|h46|h47=>(refine' L2.FA.mk ?a ?l ?c ?k;(case a|l|c|k=>k_is)))
   (case h48|h49|h50|h51|h52=>(refine' L2.FA.mk ?a ?l ?c ?k;(case a|l|c|k=>k_is)))
   (case h53|h54|h55|h56|h57|h58|h59=>(refine' L2.FM.mk ?a ?l ?c ?k ?i;(case a|l|c|k|i=>k_is)))
   (case gc_Z0a|gt_Z0a|gm_Z0a|gc_Z05|gt_Z05|gm_Z05|gc_Z06|gt_Z06=>k_is)
   (case gm_Z06|gc_Z0c|gt_Z0c|gm_Z0c|gc_Z07|gt_Z07|gm_Z07|op_Pots=>k_is)
   (case od_Z07|oo_Pots|os_Pots|om_Pots|ok_Z07|on_Pots_given|on_Pots_own|on_Pots_taken=>k_is)
   (case gx_Z05=>k_exc)
   (case gx_Z06=>k_exc)
   (case gx_Z0c=>k_exc)
   (case k_Z03|k_Z02|k_Z04|kl_Z04=>k_is)
   (case kz_Z04=>decide)
   (case kv_Z04=>exact(.cons ⟨_,rfl⟩ (.cons ⟨_,rfl⟩ (.cons ⟨_,rfl⟩ (.cons ⟨_,rfl⟩ (.cons ⟨_,rfl⟩ (.cons ⟨_,rfl⟩ (.cons ⟨_,rfl⟩ (.cons ⟨_,rfl⟩ (.cons ⟨_,rfl⟩ (.cons ⟨_,rfl⟩ (.cons ⟨_,rfl⟩ (.cons ⟨_,rfl⟩ .nil)))))))))))))
   (case k_Z08|k_Z01|k_Z00|k_Z0e|k_Z09|k_Z0d|kl_Z0d=>k_is)
   (case kv_Z0d=>exact⟨⟨_,rfl⟩,rfl,⟨_,rfl⟩,⟨⟨_,rfl⟩,rfl,⟨_,rfl⟩,⟨⟨_,rfl⟩,rfl,⟨_,rfl⟩,⟨⟨_,rfl⟩,rfl,⟨_,rfl⟩,trivial⟩⟩⟩⟩)
   (case k_Z0b|kl_Z0b=>k_is)
   (case kz_Z0b=>decide)
   (case kv_Z0b=>exact(.cons ⟨_,rfl⟩ (.cons ⟨_,rfl⟩ (.cons ⟨_,rfl⟩ (.cons ⟨_,rfl⟩ (.cons ⟨_,rfl⟩ (.cons ⟨_,rfl⟩ .nil)))))))
   (case z_range|z_divmod|z_min|z_sorted|z_sum|z_enumerate|z_list|z_set=>k_is)
   (case z_len|z_int|z_isinstance|z_tuple|z_str|z_bool|xga_NoSpan|xgt_NoSpan=>k_is)
   (case xcl_NoSpan|xmo_NoSpan|xmb_NoSpan|xga_TooLong|xgt_TooLong|xcl_TooLong|xmo_TooLong|xmb_TooLong=>k_is)
   (case m_NoSpan_SpanError|m_NoSpan_NoDate|m_NoSpan_NoSpan|m_NoSpan_TooLong|m_NoSpan_Pots|m_NoSpan_ValueError|m_TooLong_SpanError|m_TooLong_NoDate=>k_is)
   (case m_TooLong_NoSpan|m_TooLong_TooLong|m_TooLong_Pots|m_TooLong_ValueError|m_SpanError_BaseException=>k_is)
  obtain⟨t,T⟩:=T
  have e0:=hmg.symm.trans T.F_1g.mg
  cases e0
  refine⟨_,?b,λbase _ _=>(K61.ok_1g T).mono 'd'⟩
  exact K61.bind_law T
