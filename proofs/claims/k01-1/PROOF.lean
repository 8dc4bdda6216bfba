import PyProof.Rows.All
import Wide.All
import OpenK.AllK
import Wide.FinOn
import HandS.ForMost
import HandS.Exc
import PyProof.ReprRoads
import PyProof.ReprText
import HandS.ExcInit
import KE.KExcSuper
import HandS.ExcIs
import HandS.IsInst
import HandS.Wide
import HandS.WideBits
import HandS.TupAny
import HandS.Deep
import HandS.Flow
import HandS.ExcOwn
import HandS.ExcValue
import PySem.Challenge.RW_heldnames_k01_errors
import HandS.Small
/-! #### Hx1 -/
set_option Elab.async false
set_option linter.all false
set_option maxRecDepth 100000
set_option maxHeartbeats 4000000
/-! Hx1: defs whose callers' guards are known (repr), repr of data, the law's end with guards. -/
namespace L2.Hx
open PySem PySem.Spec PyProof.Rows

/-- a def's promise, for callers under no repr -/
structure FnG (P : Program) (w : World) (K : PySem.W.Frag) (mg : Str → Option Value) (base : Heap) (CX : CXT) (k : Nat) (f : Addr)
    (fd : FuncData) (ps : List Str) (sp : Sp) : Prop where
  arity : ∀ vs H Q E, sp vs H Q E → vs.length = ps.length
  go : ∀ (A : Around) (outer : List Env) (s : Shared) (H : Hp) (args : Args) (us : List Value) (vs : List V) (Q : VK) (E : XK),
    A.guards = some [] → Room k A → Env0 P w K mg base A outer s H → BindsTo s fd args (ps.zip us) → Vals vs us → sp vs H Q E →
    codeAny (model P w) A (.call (.ref f) args) (CR CX outer P w H s Q E) s

section
variable {P : Program} {w : World} {K : PySem.W.Frag} {mg : Str → Option Value} {base : Heap} {CX : CXT} {k j : Nat} {f : Addr}
  {fd : FuncData} {ps : List Str} {sp sp' : Sp}
theorem FnG.ofOk (F : FnOk P w K mg base CX k f fd ps sp) : FnG P w K mg base CX k f fd ps sp :=
  ⟨F.len, fun A outer s H args us vs Q E _ => F.run A outer s H args us vs Q E⟩
theorem FnG.up (F : FnG P w K mg base CX j f fd ps sp) (h : j ≤ k) : FnG P w K mg base CX k f fd ps sp :=
  ⟨F.arity, fun A outer s H args us vs Q E g r => F.go A outer s H args us vs Q E g (r.mono h)⟩
theorem FnG.weak (F : FnG P w K mg base CX k f fd ps sp) (h : ∀ vs H Q E, sp' vs H Q E → sp vs H Q E) :
    FnG P w K mg base CX k f fd ps sp' :=
  ⟨fun vs H Q E z => F.arity vs H Q E (h _ _ _ _ z), fun A outer s H args us vs Q E g r e b v z =>
    F.go A outer s H args us vs Q E g r e b v (h _ _ _ _ z)⟩
end

section
variable {X : Cx} {CX : CXT} {k : Nat} {f : Addr} {fd : FuncData} {ps : List Str} {sp : Sp} {dvs : List V} {ds : List Value} {E : XK}
  {x : Str} {p pos : Pos} {e : Expr} {es : List Expr} {t : TA}
theorem runG {pins : List (Addr × Obj)} {σ : St} {H : Hp} {s : Shared} {Q : VK} {us : List Value} {vs : List V}
    (F : FnG X.prog X.w X.K X.mg X.base CX k f fd ps sp) (gd : X.A.guards = some []) (hr : Room k X.A) (hb : Binds X.K fd ps ds)
    (hd : Vals dvs ds) (hx : Passes CX X E) (I : Inv X pins σ H s) (r : Vals vs us) (h : sp (vs ++ dvs) H Q E) :
    wpAny (model X.prog X.w) X.A (call (.ref f) us) (EP X pins σ Q) X.xe s := by
  have r3 : Vals (vs ++ dvs) (us ++ ds) := r.append hd
  have hl : (us ++ ds).length = ps.length := by
    rw [← r3.length]
    exact F.arity _ _ _ _ h
  have main := F.go X.A X.stack s H ⟨us, []⟩ (us ++ ds) (vs ++ dvs) Q E gd hr I.env0 (hb s us I.kIn hl) r3 h
  refine wpAny_call (codeAny_mono main fun r s' hq => ?_)
  match r, hq with
  | .error er, hq => exact hx pins σ H s er s' I hq
  | .ok (.ret u), hq => exact I.after hq
theorem pe_callG (F : FnG X.prog X.w X.K X.mg X.base CX k f fd ps sp) (gd : X.A.guards = some []) (hr : Room k X.A) (hg : Gl X x)
    (hm : X.mg x = some (.ref f)) (hk : PySem.W.keepIn X.K (.ref f) = true) (hb : Binds X.K fd ps ds) (hd : Vals dvs ds)
    (hx : Passes CX X E) (ha : PA X (e :: es) t) (hdb : (x == ("__debug__" : Str)) = false := by decide)
    (he : starEach (e :: es) X.env = (false, eval e X.env) :: starEach es X.env := by rfl)
    (hpl : (backTo pos (starEach es X.env)).any (·.1) = false := by rfl) :
    PE X (.Call (.Name x p) (e :: es) [] pos) (tCall sp dvs E t) := by
  constructor
  intro pins s σ H Q I h
  refine wpAny_Call_Name_kw (ld_glob I hg hm ?_ hdb)
  have args := ha.run pos pins s σ H _ I h
  refine PySem.W.callWith_K (h₀ := X.base) I.ok.mod.kin hk (thn args fun us s1 z => ?_) he hpl
  obtain ⟨vs, H1, I1, r, q⟩ := z
  exact ⟨I1.kIn, runG F gd hr hb hd hx I1 r q⟩
theorem pe_callG0 (F : FnG X.prog X.w X.K X.mg X.base CX k f fd ps sp) (gd : X.A.guards = some []) (hr : Room k X.A) (hg : Gl X x)
    (hm : X.mg x = some (.ref f)) (hk : PySem.W.keepIn X.K (.ref f) = true) (hb : Binds X.K fd ps ds) (hd : Vals dvs ds)
    (hx : Passes CX X E) (hdb : (x == ("__debug__" : Str)) = false := by decide) :
    PE X (.Call (.Name x p) [] [] pos) (tCall sp dvs E tNil) := by
  constructor
  intro pins s σ H Q I h
  refine wpAny_Call_Name_kw (ld_glob I hg hm ?_ hdb)
  exact PySem.W.callWith_K0 I.kIn hk (runG (us := []) F gd hr hb hd hx I .nil h)
end

section
variable {P : Program} {w : World} {K : PySem.W.Frag} {mg : Str → Option Value} {base : Heap}
/-- a def's body keeps its promise, where the callers stand under no repr -/
theorem fnG_of {CX : CXT} {k : Nat} {f : Addr} {name qual : Str} {params : Arguments} {body : List Stmt} {scope : Scope}
    {dV kV doc pm cdv ct oc : Value} {an od : Option Addr} {osl : Array (Option Value)} {N ps : List Str} {sp : Sp}
    (lk : K.lookup f = some ⟨oc, od, .func (PySem.W.fnOf name qual params body scope dV kV doc pm an cdv ct), osl⟩)
    (hcd : PySem.W.codeIn K cdv qual = true) (S : FnScope N ps scope) (arity : ∀ vs H Q E, sp vs H Q E → vs.length = ps.length)
    (hbody : ∀ (A : Around) (outer : List Env) (s : Shared) (H : Hp) (vs : List V) (Q : VK) (E : XK),
      (A.deeper (envOfC qual scope s.heap.objs.size f cdv)).guards = some [] →
      Room k (A.deeper (envOfC qual scope s.heap.objs.size f cdv)) → sp vs H Q E →
      ∃ t, PSs (cxOf CX P w K mg base N qual scope f cdv A outer s H E) body t ∧ t { nx := fun _ H' => Q .non H', rt := Q } (start N vs) H) :
    FnG P w K mg base CX (k + 1) f (PySem.W.fnOf name qual params body scope dV kV doc pm an cdv ct) ps sp := by
  refine ⟨arity, fun A outer s H args us vs Q E gd hr e0 hb r hsp => ?_⟩
  have hl := arity _ _ _ _ hsp
  have KX : K.In s.heap := e0.mod.kin.keeps fun b o e => (e0.bs b o e).1
  have noLim : s.heap.NoLimit := e0.mod.nolimit.keeps fun b o e => (e0.bs b o e).1
  have kinds : ∀ y ∈ ps.zip us, scope.names.lookup y.1 = some .local ∨
      (scope.names.lookup y.1 = some .cell ∧ ((cellsFrom (s.heap.objs.size + 1) scope.names []).lookup y.1).isSome = true) := by
    rintro ⟨n, v⟩ hy
    rcases S.par n (List.of_mem_zip hy).1 with q | q
    · exact .inl q
    · exact .inr ⟨q, PySem.W.cellsFrom_some _ _ _ (.inl q)⟩
  refine codeAny_call_function hr.depth (KX _ _ lk) rfl S.co S.gen rfl (PySem.W.codeRec_of KX hcd) (hb _ _ _ _ ?_)
  refine wpAny_newFunctionEnv_cells S.kind kinds fun env he s1 x => ?_
  subst he
  refine ⟨noLim.keeps x.toInCall.keep, codeAny_func ?_⟩
  obtain ⟨t, ht, hq⟩ := hbody A outer s H vs Q E gd (hr.deeper _) hsp
  have I : Inv (cxOf CX P w K mg base N qual scope f cdv A outer s H E) [] (start N vs) H s1 := inv_start S hr.hd e0 hl r x
  refine wpAny_mono (ht.run [] s1 (start N vs) H _ I hq) (fun fl s' hs => ?_) fun e s' hs => hs
  match fl, hs with
  | .ret u, ⟨v, σ', H', J, rv, q⟩ => exact ⟨v, H', J.os, J.bare, J.base, J.hok, rv, q⟩
  | .next, ⟨σ', H', J, q⟩ => exact ⟨V.non, H', J.os, J.bare, J.base, J.hok, rfl, q⟩
  | .brk, ⟨_, _, _, q⟩ => exact False.elim q
  | .cont, ⟨_, _, _, q⟩ => exact False.elim q
theorem okG {x qual : Str} {st : Stmt} {f : Addr} {fd : FuncData} {N ps : List Str} {k : Nat} {sp : Sp} (F : Fun K x qual st f fd)
    (S : FnScope N ps (defScope st)) (arity : ∀ vs H Q E, sp vs H Q E → vs.length = ps.length)
    (hbody : ∀ (cdv : Value) (A : Around) (outer : List Env) (s : Shared) (H : Hp) (vs : List V) (Q : VK) (E : XK),
      (A.deeper (envOfC qual (defScope st) s.heap.objs.size f cdv)).guards = some [] →
      Room k (A.deeper (envOfC qual (defScope st) s.heap.objs.size f cdv)) → sp vs H Q E →
      ∃ t, PSs (cxOf CX0 P w K mg base N qual (defScope st) f cdv A outer s H E).nox (defBody st) t ∧
        t { nx := fun _ H' => Q .non H', rt := Q } (start N vs) H) : FnG P w K mg base CX0 (k + 1) f fd ps sp := by
  obtain ⟨oc, od, kV, doc, pm, an, cdv, ct, osl, rfl, lk, hcd⟩ := F.ex
  refine fnG_of lk hcd S arity fun A outer s H vs Q E gd hr hsp => ?_
  obtain ⟨t, h, q⟩ := hbody cdv A outer s H vs Q E gd hr hsp
  exact ⟨t, h.nox, q⟩
end

/-! ### the law's end -/
theorem lawG {P : Program} {w : World} {K : PySem.W.Frag} {mg mb : Str → Option Value} {k : Nat} {fa a : Addr} {fd : FuncData} {x : Str}
    {sp : Sp} {s1 : Shared} {vs : List Value} {ns : List Int} (KX : K.In s1.heap) (hns : s1.heap.Ns mainGlobals mg)
    (hb : s1.heap.Ns builtinsNs mb) (hbb : ∀ x : Str, x ≠ "__name__" → mb x = bootBuiltins x) (hlim : s1.heap.NoLimit)
    (hg : s1.gens = #[]) (ha : s1.heap.get? a = some { cls := .type "list", data := .seq vs.toArray }) (hi : IntsAre vs ns)
    (hl : ns.length ≤ sizeLine) (hr : Room k callerA)
    (F : ∀ base : Heap, K.In base → base.Ns mainGlobals mg → FnG P w K mg base CX0 k fa fd [x] sp)
    (hbind : ∀ (s : Shared) (u : Value), BindsTo s fd ⟨[u], []⟩ [(x, u)])
    (hsp : ∀ H : Hp, Only H → SqL K H a (ns.map V.int) → sp [.ref a] H (fun v _ => v = .bl true) fun _ _ _ => False) :
    codeAny (model P w) callerA (.call (.ref fa) ⟨[.ref a], []⟩)
      (fun r s' => r = .ok (.ret (.bool true)) ∧ OldK s1.heap s'.heap ∧ s'.os = s1.os ∧ AllBare s'.gens) s1 := by
  have rv := vals_ints hi
  have lenV := hi.length
  have core : ∀ H : Hp, Only H → SqL K H a (ns.map V.int) → HOk P w H s1.heap → (∀ b, H b ≠ none → b = a) → (H a ≠ none → K.lookup a = none) →
      codeAny (model P w) callerA (.call (.ref fa) ⟨[.ref a], []⟩)
        (fun r s' => r = .ok (.ret (.bool true)) ∧ OldK s1.heap s'.heap ∧ s'.os = s1.os ∧ AllBare s'.gens) s1 := by
    intro H hO hS hok hA hK
    have notA : ∀ {b : Addr} {o : Obj} {es : Array DictEntry} {ep : Nat}, s1.heap.get? b = some o → o.data = .dict es ep → H b = none := by
      intro b o es ep e d
      cases q : H b with
      | none => rfl
      | some u =>
        have e' : b = a := hA b (by rw [q]; simp)
        subst e'
        rw [ha] at e
        cases e
        have d' : Data.seq vs.toArray _ = Data.dict es ep := d
        cases d'
    have nsK : ∀ {b : Addr} {m : Str → Option Value}, s1.heap.Ns b m → (hidT s1.heap H).Ns b m := by
      rintro b m ⟨o, es, ep, e, d, r⟩
      exact ⟨o, es, ep, hidT_get e (notA e d), d, r⟩
    have hKb : K.In (hidT s1.heap H) := by
      intro b o e
      refine hidT_get (KX b o e) ?_
      cases q : H b with
      | none => rfl
      | some u =>
        have e' : b = a := hA b (by rw [q]; simp)
        subst e'
        rw [hK (by rw [q]; simp)] at e
        cases e
    have hM : Mod K mg (hidT s1.heap H) := by
      obtain ⟨mc, h1, h2⟩ := hlim
      exact ⟨hKb, nsK hns, ⟨mb, nsK hb, hbb⟩, mc, nsK h1, h2⟩
    have e0 : Env0 P w K mg (hidT s1.heap H) callerA [] s1 H :=
      ⟨rfl, hM, fun b o e => of_hidT e, Nat.le_of_eq (hidT_size _ _), trivial,
        fun b hb => absurd (show b ∈ ([] : List Addr) from hb) (by simp), hok, .of_eq hg⟩
    have main := (F _ hKb (nsK hns)).go callerA [] s1 H ⟨[.ref a], []⟩ [.ref a] [.ref a] _ _ rfl hr e0 (hbind s1 (.ref a)) (.cons rfl .nil) (hsp H hO hS)
    refine codeAny_mono main fun r s' h => ?_
    match r, h with
    | .error e, h => exact False.elim h
    | .ok (.ret u), ⟨v, H', os, bare, un, hok', r', q⟩ =>
      have q' : v = .bl true := q
      subst q'
      obtain rfl : u = Value.bool true := r'
      refine ⟨rfl, OldK.of_keep fun b o e => ?_, os, bare⟩
      cases q : H b with
      | none => exact un.keep b o e q (fun z => absurd (show b ∈ ([] : List Addr) from z) (by simp)) (by simp)
      | some u =>
        rcases hO b with z | ⟨ob, xs, z⟩
        · rw [q] at z
          cases z
        · obtain ⟨e1, _⟩ := hok b _ z
          obtain ⟨e2, _⟩ := hok' b _ (un.frzs b ob _ z)
          rw [e] at e1
          cases e1
          exact e2
  cases hk : K.lookup a with
  | some o =>
    have e := KX a o hk
    rw [ha] at e
    cases e
    refine core (fun _ => none) (fun _ => .inl rfl) ?_ (fun b u z => ?_) (fun b z => absurd rfl z) fun z => absurd rfl z
    · exact .inr ⟨_, vs.toArray, _, hk, rfl, rfl, rfl, by rw [List.size_toArray, lenV]; exact hl, by simpa using rv⟩
    · have z' : (none : Option HO) = some u := z
      cases z'
  | none =>
    let H0 : Hp := fun b => if b = a then some (.frz { cls := .type "list", data := .seq vs.toArray } (.lst (ns.map V.int))) else none
    have at_ : H0 a = some (.frz { cls := .type "list", data := .seq vs.toArray } (.lst (ns.map V.int))) := if_pos rfl
    have off : ∀ b, b ≠ a → H0 b = none := fun b hb => if_neg hb
    refine core H0 (fun b => ?_) (.inl (.inr ⟨_, at_⟩)) (fun b u z => ?_) (fun b z => ?_) fun _ => hk
    · by_cases hb : b = a
      · exact .inr ⟨_, _, by rw [hb]; exact at_⟩
      · exact .inl (off b hb)
    · by_cases hb : b = a
      · subst hb
        rw [at_] at z
        cases z
        exact ⟨ha, by rw [List.length_map]; exact hl, vs, _, rv, ha⟩
      · rw [off b hb] at z
        cases z
    · by_cases hb : b = a
      · exact hb
      · exact absurd (off b hb) z

theorem walkG {l : PySem.W.OpenLaw} {n k : Nat} {q : Program} {loose : List Str} {XP : (Str → Option Value) → Heap → Prop}
    {YP : World → Heap → Prop} {d : DefRec} {K : Params → PySem.W.Frag} {sp : PySem.W.Frag → Sp} {x : Str}
    (hn : l.most = some n) (hn2 : n ≤ sizeLine) (hdf : d.params.defaults = []) (hr : Room k callerA)
    (hY : ∀ (w : World) (h : Heap), YP w h → (K w.params).In h)
    (F : ∀ (w : World) (mg : Str → Option Value) (fa : Addr) (h : Heap), (K w.params).In h → h.Ns mainGlobals mg → mg d.name = some (.ref fa) →
      ∃ fd : FuncData, (∀ (s : Shared) (u : Value), BindsTo s fd ⟨[u], []⟩ [(x, u)]) ∧
        ∀ base : Heap, (K w.params).In base → base.Ns mainGlobals mg → FnG l.prog w (K w.params) mg base CX0 k fa fd [x] (sp (K w.params)))
    (hsp : ∀ (K : PySem.W.Frag) (H : Hp) (a : Addr) (ns : List Int), ns.length ≤ n → Only H → SqL K H a (ns.map V.int) →
      sp K [.ref a] H (fun v _ => v = .bl true) fun _ _ _ => False) :
    PySem.W.WalkO q loose XP YP l.row.toRowW d [] (fun f vs => PySem.call f vs) := by
  refine Att.attach_call hn hdf fun w s0 s1 mg mb fa o pm cd doc a vs ns G Y ho hd hcd hmg hobj hints hlen hg => ?_
  have KX := hY w _ Y
  obtain ⟨fd, hb, hF⟩ := F w mg fa _ KX G.T.g hmg
  exact lawG KX G.T.g G.T.b G.T.builtins G.T.nolimit hg hobj hints (Nat.le_trans hlen hn2) hr hF hb
    fun H hO hS => hsp _ H a ns hlen hO hS

/-! ### data with dicts, and its repr -/
def kD : Key → PyData
  | .inl i => PyData.int i
  | .inr x => PyData.str x
mutual
inductive Dq (K : PySem.W.Frag) (H : Hp) : V → PyData → Prop
  | non : Dq K H .non .none
  | bl (b : Bool) : Dq K H (.bl b) (.bool b)
  | int (i : Int) : Dq K H (.int i) (.int i)
  | str (x : Str) : Dq K H (.str x) (.str x)
  | lst {a : Addr} {xs : List V} {ds : List PyData} : H a = some (.lst xs) → a ≠ sysModules → DqAll K H xs ds → Dq K H (.ref a) (.list ds)
  | tup {a : Addr} {xs : List V} {ds : List PyData} : SqT K H a xs → DqAll K H xs ds → Dq K H (.ref a) (.tuple ds)
  | dct {a : Addr} {kvs : List (Key × V)} {ds : List PyData} : H a = some (.dK kvs) → DqAll K H (kvs.map (·.2)) ds →
      Dq K H (.ref a) (.dict ((kvs.map fun p => kD p.1).zip ds))
inductive DqAll (K : PySem.W.Frag) (H : Hp) : List V → List PyData → Prop
  | nil : DqAll K H [] []
  | cons {v : V} {vs : List V} {d : PyData} {ds : List PyData} : Dq K H v d → DqAll K H vs ds → DqAll K H (v :: vs) (d :: ds)
end
end L2.Hx

/-! #### Hx2 -/
set_option Elab.async false
set_option linter.all false
set_option maxRecDepth 100000
set_option maxHeartbeats 4000000
namespace L2.Hx
open PySem PySem.Spec PyProof.Rows

section
variable {X : Cx} {pins : List (Addr × Obj)} {σ : St} {H : Hp} {s : Shared}
theorem keys_read {P : Program} {w : World} {h : Heap} : ∀ {es : List DictEntry} {kvs : List (Key × V)} {vs : List (Key × Value)},
    Pairs (mixKind P w) es vs → KV kvs vs → ReadsAll h (es.map (·.key)) (kvs.map fun p => kD p.1) []
  | _, _, _, .nil, .nil => ReadsAll.nil
  | _, _, _, .cons (e := e) (kv := kv) h1 h2 t, .cons r t' => by
    have ih := keys_read (h := h) t t'
    obtain ⟨k, v⟩ := kv
    obtain ⟨r1, _⟩ := r
    dsimp only at r1
    have rk : Reads h e.key (kD k) [] := by
      rcases keyIs_shape (show keyIs k e.key = true from h1) with ⟨i, t, rfl, q⟩ | ⟨x, t, rfl, q⟩
      · rw [q]
        exact Reads.int i t
      · rw [q]
        exact Reads.str x t
    have z := ReadsAll.cons rk ih
    simp only [List.map_cons, r1]
    exact z
theorem vals_of_pairs {P : Program} {w : World} : ∀ {es : List DictEntry} {kvs : List (Key × V)} {vs : List (Key × Value)},
    Pairs (mixKind P w) es vs → KV kvs vs → Vals (kvs.map (·.2)) (es.map (·.val))
  | _, _, _, .nil, .nil => .nil
  | _, _, _, .cons h1 h2 t, .cons r t' => by
    refine .cons ?_ (vals_of_pairs t t')
    show RelV _ (DictEntry.val _)
    rw [h2]
    exact r.2

theorem zip_fst {α β : Type} : ∀ {a : List α} {b : List β}, a.length = b.length → (a.zip b).map (·.1) = a
  | [], _, _ => rfl
  | _ :: _, [], h => nomatch h
  | x :: a, y :: b, h => by
    have := zip_fst (a := a) (b := b) (by simpa using h)
    simp [this]
theorem zip_snd {α β : Type} : ∀ {a : List α} {b : List β}, a.length = b.length → (a.zip b).map (·.2) = b
  | [], [], _ => rfl
  | [], _ :: _, h => nomatch h
  | _ :: _, [], h => nomatch h
  | x :: a, y :: b, h => by
    have := zip_snd (a := a) (b := b) (by simpa using h)
    simp [this]
theorem DqAll.length {K : PySem.W.Frag} : ∀ {vs : List V} {ds : List PyData}, DqAll K H vs ds → vs.length = ds.length
  | [], _, h => by
    cases h
    rfl
  | _ :: _, _, h => by
    cases h with
    | cons _ t => simp [DqAll.length t]

mutual
theorem Dq.reads (I : Inv X pins σ H s) : ∀ {v : V} {d : PyData}, Dq X.K H v d → ∀ u, RelV v u → ∃ as, Reads s.heap u d as ∧ sysModules ∉ as
  | _, _, .non, u, r => by
    cases r
    exact ⟨_, Reads.none, by simp⟩
  | _, _, .bl b, u, r => by
    cases r
    exact ⟨_, Reads.bool b, by simp⟩
  | _, _, .int i, u, r => by
    obtain ⟨t, rfl⟩ := r
    exact ⟨_, Reads.int i t, by simp⟩
  | _, _, .str x, u, r => by
    obtain ⟨t, rfl⟩ := r
    exact ⟨_, Reads.str x t, by simp⟩
  | _, _, .lst (a := a) hs hn ha, u, r => by
    cases r
    obtain ⟨its, rv, ⟨o, n, ho, hc, _, hd⟩, _⟩ := I.list (SqL.of hs)
    obtain ⟨as, hr, hm⟩ := DqAll.reads I ha its rv
    refine ⟨_, Reads.list ho hc hd hr, ?_⟩
    simp only [List.mem_cons, not_or]
    exact ⟨Ne.symm hn, hm⟩
  | _, _, .tup hs ha, u, r => by
    cases r
    obtain ⟨its, rv, ⟨o, ho, hc, n, hd⟩, _⟩ := I.tuple hs
    obtain ⟨as, hr, hm⟩ := DqAll.reads I ha its rv
    exact ⟨_, Reads.tuple ho hc hd hr, hm⟩
  | _, _, .dct (a := a) (kvs := kvs) (ds := ds) e ha, u, r => by
    cases r
    obtain ⟨_, hy, vs, rel, o, es, ep, ho, hx, hd, _, hp, _⟩ := dk_of I.hok e
    have rv := vals_of_pairs hp rel
    obtain ⟨bs, hr, hm⟩ := DqAll.reads I ha _ rv
    have hk := keys_read (h := s.heap) hp rel
    have hl : (kvs.map fun p => kD p.1).length = ds.length := by
      rw [List.length_map, ← DqAll.length ha, List.length_map]
    refine ⟨_, Reads.dict (as := []) (bs := bs) ho hx.1 hd ?_ ?_, ?_⟩
    · rw [zip_fst hl]
      exact hk
    · rw [zip_snd hl]
      exact hr
    · have ha' : a ≠ sysModules := beq_eq_false_iff_ne.mp hy
      simp only [List.cons_append, List.nil_append, List.mem_cons, not_or]
      exact ⟨Ne.symm ha', hm⟩
theorem DqAll.reads (I : Inv X pins σ H s) : ∀ {vs : List V} {ds : List PyData}, DqAll X.K H vs ds → ∀ us, Vals vs us → ∃ as, ReadsAll s.heap us ds as ∧ sysModules ∉ as
  | _, _, .nil, us, r => by
    cases r
    exact ⟨_, ReadsAll.nil, by simp⟩
  | _, _, .cons h t, us, r => by
    cases r with
    | cons r1 r2 =>
      obtain ⟨as, q1, m1⟩ := Dq.reads I h _ r1
      obtain ⟨bs, q2, m2⟩ := DqAll.reads I t _ r2
      refine ⟨_, ReadsAll.cons q1 q2, ?_⟩
      simp only [List.mem_append, not_or]
      exact ⟨m1, m2⟩
end

/-! ### how long a repr can be -/
mutual
def sz : PyData → Nat
  | .none => 4
  | .bool _ => 5
  | .int _ => 1921
  | .str x => (reprText x).length
  | .list xs => 2 + szAll xs
  | .tuple xs => 3 + szAll xs
  | .dict kvs => 2 + szKv kvs
def szAll : List PyData → Nat
  | [] => 0
  | x :: xs => sz x + 2 + szAll xs
def szKv : List (PyData × PyData) → Nat
  | [] => 0
  | (k, v) :: r => sz k + sz v + 4 + szKv r
end
theorem join_le : ∀ ts : List Str, (Str.join ", " ts).length ≤ piled ts := fun ts => by
  by_cases h : ts = []
  · subst h
    simp [piled, Str.join]
    decide
  · have := join_length_add ts h
    omega
mutual
theorem shown_le : ∀ d : PyData, d.showable = true → d.shown.length ≤ sz d
  | .none, _ => by
    rw [PyData.shown_none]
    exact (by decide +kernel)
  | .bool b, _ => by
    rw [PyData.shown_bool]
    cases b <;> exact (by decide +kernel)
  | .int i, h => by
    rw [PyData.shown_int]
    have h' : i.natAbs.log2 < 1920 := by simpa [PyData.showable] using h
    simpa [sz] using int_text_len_1921 h'
  | .str x, _ => by
    rw [PyData.shown_str]
    simp [sz]
  | .list xs, h => by
    rw [PyData.shown_list]
    have ih := shownAll_le xs (by simpa [PyData.showable] using h)
    have j := join_le (PyData.shownAll xs)
    have e1 : ("[" : Str).length = 1 := by decide +kernel
    have e2 : ("]" : Str).length = 1 := by decide +kernel
    rw [Str.length_append, Str.length_append, e1, e2]
    simp only [sz]
    omega
  | .tuple xs, h => by
    rw [PyData.shown_tuple]
    have ih := shownAll_le xs (by simpa [PyData.showable] using h)
    have j := join_le (PyData.shownAll xs)
    have e1 : ("(" : Str).length = 1 := by decide +kernel
    have e2 : ((if xs.length == 1 then ",)" else ")" : String) : Str).length ≤ 2 := by
      split
      · exact (by decide +kernel)
      · exact (by decide +kernel)
    rw [Str.length_append, Str.length_append, e1]
    simp only [sz]
    omega
  | .dict kvs, h => by
    rw [PyData.shown_dict]
    have ih := shownKv_le kvs (by simpa [PyData.showable] using h)
    have j := join_le (PyData.shownKv kvs)
    have e1 : ("{" : Str).length = 1 := by decide +kernel
    have e2 : ("}" : Str).length = 1 := by decide +kernel
    rw [Str.length_append, Str.length_append, e1, e2]
    simp only [sz]
    omega
theorem shownAll_le : ∀ xs : List PyData, PyData.showableAll xs = true → piled (PyData.shownAll xs) ≤ szAll xs
  | [], _ => by simp [PyData.shownAll, piled, szAll]
  | x :: xs, h => by
    simp only [PyData.showableAll, Bool.and_eq_true] at h
    have h1 := shown_le x h.1
    have h2 := shownAll_le xs h.2
    rw [PyData.shownAll_cons, piled_cons]
    simp only [szAll]
    omega
theorem shownKv_le : ∀ kvs : List (PyData × PyData), PyData.showableKv kvs = true → piled (PyData.shownKv kvs) ≤ szKv kvs
  | [], _ => by simp [PyData.shownKv, piled, szKv]
  | (k, v) :: r, h => by
    simp only [PyData.showableKv, Bool.and_eq_true] at h
    have h1 := shown_le k h.1.1
    have h3 := shown_le v h.1.2
    have h2 := shownKv_le r h.2
    have e1 : (": " : Str).length = 2 := by decide +kernel
    rw [PyData.shownKv_cons, piled_cons, Str.length_append, Str.length_append, e1]
    simp only [szKv]
    omega
end

/-- repr of data -/
def rRepr (K : PySem.W.Frag) : List V → Hp → VK → Prop := fun xs H Q => ∃ v d, xs = [v] ∧ Dq K H v d ∧ d.showable = true ∧ d.depth ≤ 60 ∧
  sz d ≤ sizeLine ∧ Q (.str d.shown) H
theorem call_repr (gd : X.A.guards = some []) (hu : X.A.units + 64 < cLine) : CallR X (.builtin "repr") (rRepr X.K) := by
  intro pins s σ H xs us Q I r h
  obtain ⟨v, d, rfl, hd, hs, hp, hz, q⟩ := h
  have hz' : d.shown.length ≤ sizeLine := Nat.le_trans (shown_le d hs) hz
  cases r with
  | cons rv rt =>
    rename_i u ut
    cases rt
    obtain ⟨as, R, hm⟩ := Dq.reads I hd u rv
    cases R with
    | none =>
      rw [PyData.shown_none] at q
      exact PySem.P.repr_of_none ⟨V.str _, H, I.tok _, ⟨_, rfl⟩, q⟩
    | bool b =>
      rw [PyData.shown_bool] at q
      exact PySem.P.repr_of_bool ⟨V.str _, H, I.tok _, ⟨_, rfl⟩, by cases b <;> exact q⟩
    | int i t =>
      rw [PyData.shown_int] at q
      exact PySem.P.repr_of_int (by simpa [PyData.showable] using hs) ⟨V.str _, H, I.tok _, ⟨_, rfl⟩, q⟩
    | str x t =>
      rw [PyData.shown_str] at q hz'
      exact PySem.P.repr_of_str ⟨V.str _, H, I.tok _, ⟨_, rfl⟩, q⟩ hz'
    | list h1 h2 h3 h4 =>
      exact repr_of_reads' (.list h1 h2 h3 h4) hs (fun _ => hm) gd (by omega) (fun _ _ e => e)
        (fun h' u' tk hk => ⟨V.str _, H, I.kept hk, ⟨_, rfl⟩, q⟩) hz'
    | tuple h1 h2 h3 h4 =>
      exact repr_of_reads' (.tuple h1 h2 h3 h4) hs (fun _ => hm) gd (by omega) (fun _ _ e => e)
        (fun h' u' tk hk => ⟨V.str _, H, I.kept hk, ⟨_, rfl⟩, q⟩) hz'
    | dict h1 h2 h3 h4 h5 =>
      exact repr_of_reads' (.dict h1 h2 h3 h4 h5) hs (fun _ => hm) gd (by omega) (fun _ _ e => e)
        (fun h' u' tk hk => ⟨V.str _, H, I.kept hk, ⟨_, rfl⟩, q⟩) hz'

/-- a list display, its address told not to be that of sys.modules -/
def tLstS (t : TA) : TE := fun σ H Q => t σ H fun xs H1 => xs.length ≤ sizeLine ∧ ∀ p, H1 p = none → p ≠ sysModules → Q (.ref p) (upd H1 p (.lst xs))
theorem pe_lstS {es : List Expr} {t : TA} {pos : Pos} (h : PA X es t) : PE X (.List es pos) (tLstS t) := by
  constructor
  intro pins s σ H Q I hq
  have args := h.run pos pins s σ H _ I hq
  refine wpAny_List_spliced (thn args fun us s1 z => ?_)
  obtain ⟨xs, H1, I1, r, hl, q⟩ := z
  refine ⟨by rw [← r.length]; exact hl, ?_⟩
  have fr : H1 s1.heap.objs.size = none := I1.hok.fresh (Nat.le_refl _)
  have ns : s1.heap.objs.size ≠ sysModules := Nat.ne_of_gt I1.big
  have lay := I1.laid (t' := s1.toks) (a := s1.heap.objs.size) (o := .lst xs) (fun b u e => Heap.get?_push_of_some _ e) (Nat.le_refl _)
    ⟨hl, us, 0, r, Heap.get?_push_size _ rfl⟩
  exact ⟨.ref s1.heap.objs.size, _, lay, rfl, q _ fr ns⟩
end
end L2.Hx

/-! #### Hx3 -/
set_option Elab.async false
set_option linter.all false
set_option maxRecDepth 100000
set_option maxHeartbeats 4000000
/-! Hx3: own exception classes whose __init__ says super().__init__(text) and perhaps stores its one field. -/
namespace L2.Hx
open PySem PySem.Spec PyProof.Rows PySem.W PySem.Calls
open PySem.HandSPX (excO refsVE)

/-- what the written part says of such a class C, its __init__ f, the cell cc of __class__, the code record cda -/
structure SupC (prog : Program) (K : Frag) (C f cc cda : Addr) (qual : Str) (params : Arguments) (body : List Stmt) (scope : Scope) (fd : FuncData) : Prop where
  cls : ∃ nm q N bs bm sn sub ab col dd k0 k1 k2 k3 k5, K.lookup C = some (excClassObj nm q C N bs bm true sn sub ab col dd k0 k1 k2 k3 k5 "ValueError.__new__") ∧ refsVE bm = true
  sup : ks_superIn K C C "__init__" = some (some (.builtin "ValueError.__init__"))
  subB : subIn K (.ref C) (.type "ValueError") = some true
  selfM : mroIn K C (.ref C) = some true
  noSuper : nsIn K mainGlobals "super" = some none
  noThird : nsIn K cStatics "thirdparty.any" = some none
  fn : ∃ (oc : Value) (od : Option Addr) (dV kV doc pm : Value) (an : Option Addr) (ct : Value) (osl : Array (Option Value)),
    fd = ksFn "__init__" qual params body scope dV kV doc pm an (.ref cda) ct cc ∧ K.lookup f = some ⟨oc, od, .func fd, osl⟩
  codeIs : codeIn K (.ref cda) qual = true
  code : ∃ (ccl : Value) (cdd : Option Addr) (vs : Array Value) (ccs : Array (Option Value)) (file : Str) (tf : Tok),
    K.lookup cda = some ⟨ccl, cdd, .fields vs, ccs⟩ ∧ vs[2]? = some (.str file tf) ∧ ((prog.main.file : Str) == file) = true
  cell : ∃ (cl : Value) (cld : Option Addr) (csl : Array (Option Value)), K.lookup cc = some ⟨cl, cld, .cell (some (.ref C)), csl⟩

section
variable {prog : Program} {w : World} {A : Around} {E : Value → Shared → Prop} {K : Frag} {C f cc cda : Addr} {qual : Str} {params : Arguments}
  {body : List Stmt} {scope : Scope} {fd : FuncData} {mg mb : Str → Option Value} {m : Str → Option Value} {x t0 L : Addr}

theorem super_line (T : SupC prog K C f cc cda qual params body scope fd) {s : Shared} {p0 p1 p2 p3 p4 p5 : Pos} {kd : Nat} {msg : Str} {ar : Arg} {bdy : List Stmt}
    {Q : Flow → Shared → Prop} (X : K.In s.heap) (hns : s.heap.Ns mainGlobals mg) (hmb : s.heap.Ns builtinsNs mb)
    (hbb : ∀ x : Str, x ≠ "__name__" → mb x = bootBuiltins x) (hx : s.heap.get? x = some (excO C t0)) (hn : s.heap.Ns L m) (hv : m ar.arg = some (.ref x))
    (hp : (params.posonlyargs ++ params.args).head? = some ar) (hks : scope.names.lookup ("super" : Str) = some .globalImplicit)
    (hkc : scope.names.lookup ("__class__" : Str) = some .free) (hka : scope.names.lookup ar.arg = some .local) (hk : scope.kind = .function)
    (htop : (prog.main.scope.names.lookup ("super" : Str)).isSome = false) {pl : Sem Bool}
    (he : eval (.Call (.Attribute (.Call (.Name "super" p0) [] [] p1) "__init__" p2) [.Constant (.str msg) kd p3] [] p4) (ksEnv qual scope L f (.ref cda) cc) = (do
      let ov ← attributeBase (.Call (.Name "super" p0) [] [] p1) "__init__" (ksEnv qual scope L f (.ref cda) cc) (eval (.Call (.Name "super" p0) [] [] p1) (ksEnv qual scope L f (.ref cda) cc))
      standAt p2.atName
      let (fn, first) ← holding [ov] (getMethod ov "__init__" pl)
      callWith p4 fn first (backTo p4 (starEach [.Constant (.str msg) kd p3] (ksEnv qual scope L f (.ref cda) cc))) []))
    (h : ∀ h' tk t1, (∀ b o, b ≠ x → s.heap.get? b = some o → h'.get? b = some o) → h'.get? x = some (excO C t1) →
      Q .next { s with heap := h', toks := tk }) :
    _root_.PySem.wpAt (model prog w) A (.func bdy (ksEnv qual scope L f (.ref cda) cc))
      (exec (.Expr (.Call (.Attribute (.Call (.Name "super" p0) [] [] p1) "__init__" p2) [.Constant (.str msg) kd p3] [] p4) p5) (ksEnv qual scope L f (.ref cda) cc)) Q E s := by
  obtain ⟨nm, q, N, bs, bm, sn, sub, ab, col, dd, k0, k1, k2, k3, k5, hC, hbm⟩ := T.cls
  obtain ⟨oc, od, dV, kV, doc, pm, an, ct, osl, rfl, hf⟩ := T.fn
  obtain ⟨ccl, cdd, vs, ccs, file, tf, hcode, hvs, hfile⟩ := T.code
  obtain ⟨cl, cld, csl, hcell⟩ := T.cell
  have hcl : clsIn K C = some { name := nm, bases := bs, mro := .ref C :: bm, ns := N, qualname := q, hasDict := true, slotNames := sn, subclasses := sub, abstract := ab, collection := col, hasDel := false } := by
    unfold clsIn
    rw [hC] <;> rfl
  have I : InstAt s.heap x (excO C t0) C none := ⟨hx, rfl, rfl, trivial⟩
  have xC : x ≠ C := ks_ne X I hcl
  have hgs : mg ("super" : Str) = none := mg_none_of X hns T.noSuper
  have boot : bootBuiltins ("super" : Str) = some (.type "super") := by decide +kernel
  refine ks_wpAt_Expr_any ?_ (by unfold interactive; rw [show (ksEnv qual scope L f (.ref cda) cc).scope.kind = .function from hk]; rfl)
  refine ks_wpAt_MethodCall ?_ he
  -- super()
  refine ks_wpAt_super_base (env := ksEnv qual scope L f (.ref cda) cc) hks hkc (by decide) rfl (X _ _ hf) rfl hp rfl (X _ _ hcode) rfl hvs hfile htop ?_
  refine ks_loadName_global hk hks (loadGlobal_builtin (env := ksEnv qual scope L f (.ref cda) cc) hns hgs hmb ((hbb _ (by decide +kernel)).trans boot) ⟨rfl, ?_⟩)
  refine wpAny_loadName_free hk hkc rfl ⟨_, X _ _ hcell, rfl⟩ ?_
  refine wpAny_loadName_local hk hka hn hv ?_
  refine ks_wpAny_isType_cls (X _ _ hC) rfl ⟨rfl, ?_⟩
  obtain ⟨hp0, g0, d0, t0', os0⟩ := s
  refine ks_wpAny_call_super (X _ _ hC) rfl hx rfl (fun c e => nomatch e) (looks_mroIn X T.selfM) (fun h1 e1 k1' => ?_)
  -- .__init__
  have X1 : K.In h1 := X.keeps k1'
  have hx1 := k1' _ _ hx
  have I1 : InstAt h1 x (excO C t0) C none := ⟨hx1, rfl, rfl, trivial⟩
  have hsup : alongIn K "__init__" (((Value.ref C :: bm).dropWhile (· != .ref C)).drop 1) = some (some (.builtin "ValueError.__init__")) := by
    have z := T.sup
    unfold ks_superIn at z
    rw [hcl] at z
    exact z
  have hI : Looks (model prog w) h1 (isInstance (.ref x) (.type "ValueError")) true := I1.type.andThen (looks_subIn X1 T.subB)
  refine kxs_getMethod kxs_ValueError e1 (looks_opaque X1 T.noThird) (l₀ := .ref C :: bm)
    (fun A Q E s k q => wpAny_bind ((looks_clsIn X1 hcl) A _ E s k (wpAny_pure q))) rfl X1 hsup hI xC (by decide) ?_
  -- the call
  have hu : (h1.push (kxs_mw "ValueError.__init__" x)).get? h1.objs.size = some (kxs_mw "ValueError.__init__" x) := Heap.get?_push_at rfl rfl
  refine kxs_callWith (i := "ValueError.__init__") (x := x) (by rfl) ?_
  refine evalArgs_plain ?_
  show wpAny _ _ (spliced ((false, eval (.Constant (.str msg) kd p3) (ksEnv qual scope L f (.ref cda) cc)) :: [])) _ _ _
  refine Calls.spliced_cons (Calls.Constant_str (Calls.spliced_nil ⟨hu, ?_⟩))
  have X2 : K.In (h1.push (kxs_mw "ValueError.__init__" x)) := X1.keeps fun b o e => Heap.get?_push_of_some _ e
  have hx2 : (h1.push (kxs_mw "ValueError.__init__" x)).get? x = some (excO C t0) := Heap.get?_push_of_some _ hx1
  refine wpAny_call (codeAny_of_tree ?_)
  show wpAny _ A.in1 (callAny (.ref h1.objs.size) ⟨[.str msg _], []⟩) _ _ _
  simp only [callAny]
  refine wpAny_bind (wpAny_load hu ?_)
  simp only [kxs_mw, show (Value.type "method-wrapper" == Value.type "method" || Value.type "method-wrapper" == Value.type "builtin_function_or_method" || Value.type "method-wrapper" == Value.type "method-wrapper") = true by decide, if_true]
  refine KFB.if_so (by decide) ?_
  refine wpAny_bind (check_bound_init F.excBase_ValueError.toExcCallFacts (X2 _ _ hC) hx2 rfl ?_)
  refine wpAny_bind (wpAny_pure (wpAny_pure ?_))
  refine ⟨plainId_quiet F.excBase_ValueError.init.plain _, codeAny_builtin F.excBase_ValueError.initEntry ?_⟩
  rw [Around.under_plainId F.excBase_ValueError.init.plain _]
  wp_walk
  refine h _ _ (h1.push (kxs_mw "ValueError.__init__" x)).objs.size (fun b o hb ho => ?_) ?_
  · rw [Heap.get?_update_other _ _ (Ne.symm hb)]
    exact Heap.get?_push_of_some _ (Heap.get?_push_of_some _ (k1' _ _ ho))
  · rw [Heap.get?_update_self _ (Heap.get?_push_of_some _ hx2) rfl]
    rfl
end
end L2.Hx

/-! #### Hx4 -/
set_option Elab.async false
set_option linter.all false
set_option maxRecDepth 100000
set_option maxHeartbeats 4000000
namespace L2.Hx
open PySem PySem.Spec PyProof.Rows PySem.W PySem.Calls
open PySem.HandSPX (excO refsVE)

abbrev supE (p0 p1 p2 p3 p4 : Pos) (kd : Nat) (msg : Str) : Expr :=
  .Call (.Attribute (.Call (.Name "super" p0) [] [] p1) "__init__" p2) [.Constant (.str msg) kd p3] [] p4
/-- such a call is an ordinary method call (its places are such) -/
def PlainCall (p0 p1 p2 p3 p4 : Pos) (kd : Nat) (msg : Str) : Prop := ∀ env : Env, ∃ pl : Sem Bool,
  eval (supE p0 p1 p2 p3 p4 kd msg) env = (do
      let ov ← attributeBase (.Call (.Name "super" p0) [] [] p1) "__init__" env (eval (.Call (.Name "super" p0) [] [] p1) env)
      standAt p2.atName
      let (fn, first) ← holding [ov] (getMethod ov "__init__" pl)
      callWith p4 fn first (backTo p4 (starEach [.Constant (.str msg) kd p3] env)) [])
/-- the scope and the first parameter of such an __init__ -/
structure SupScope (prog : Program) (params : Arguments) (scope : Scope) : Prop where
  first : ∃ ar, (params.posonlyargs ++ params.args).head? = some ar ∧ ar.arg = "self"
  hks : scope.names.lookup ("super" : Str) = some .globalImplicit
  hkc : scope.names.lookup ("__class__" : Str) = some .free
  hself : scope.names.lookup ("self" : Str) = some .local
  kind : scope.kind = .function
  co : scope.isCoroutine = false
  gen : scope.isGenerator = false
  noCell : ∀ y ∈ scope.names, y.2 ≠ .cell
  top : (prog.main.scope.names.lookup ("super" : Str)).isSome = false
structure FieldC (prog : Program) (K : Frag) (C f cc cda : Addr) (qual : Str) (params : Arguments) (body : List Stmt) (scope : Scope) (fd : FuncData) (fld : Str) : Prop where
  toSup : SupC prog K C f cc cda qual params body scope fd
  sc : SupScope prog params scope
  hfld : scope.names.lookup fld = some .local
  dbg : (fld == ("__debug__" : Str)) = false
  shape : ∃ (p0 p1 p2 p3 p4 p5 q1 q2 q3 q4 : Pos) (kd : Nat) (msg : Str),
    body = [.Expr (supE p0 p1 p2 p3 p4 kd msg) p5, .Assign [.Attribute (.Name "self" q1) fld q2] (.Name fld q3) q4] ∧ PlainCall p0 p1 p2 p3 p4 kd msg
  ne : fld ≠ "self"
  sa : findIn K (.ref C) "__setattr__" = some (some (.builtin "object.__setattr__"))
  noF : findIn K (.ref C) fld = some none

section
variable {prog : Program} {w : World} {A : Around} {E : Value → Shared → Prop} {R : Result → Shared → Prop} {K : Frag} {C f cc cda : Addr} {qual : Str} {params : Arguments}
  {body : List Stmt} {scope : Scope} {fd : FuncData} {fld : Str} {mg mb : Str → Option Value} {x t0 : Addr} {v : Value}
/-- what stands behind the __init__ of an exception at x -/
structure Inited (h h' : Heap) (x C dx t1 : Addr) (fld : Str) (v : Value) : Prop where
  keep : ∀ b o, b ≠ x → h.get? b = some o → h'.get? b = some o
  obj : h'.get? x = some ({ cls := .ref C, dict := some dx, data := .fields #[.ref t1, .none, .none, .none, .bool false, .none] } : Obj)
  big : h.objs.size ≤ dx
  apart : dx ≠ x
  ns : h'.Ns1 dx (fun y => if y = fld then some v else none)

theorem init_field (T : FieldC prog K C f cc cda qual params body scope fd fld) {s : Shared} {args : Args} (X : K.In s.heap) (hlim : s.heap.NoLimit)
    (hns : s.heap.Ns mainGlobals mg) (hmb : s.heap.Ns builtinsNs mb) (hbb : ∀ x : Str, x ≠ "__name__" → mb x = bootBuiltins x)
    (hx : s.heap.get? x = some (excO C t0)) (hnx : K.lookup x = none) (hroom : A.depth < recursionLimit) (hbind : BindsTo s fd args [("self", .ref x), (fld, v)])
    (hq : ∀ h' tk dx t1, Inited s.heap h' x C dx t1 fld v → R (.ok (.ret .none)) { s with heap := h', toks := tk }) :
    codeAny (model prog w) A (.call (.ref f) args) R s := by
  have TS := T.toSup
  obtain ⟨nm, q, N, bs, bm, sn, sub, ab, col, dd, k0, k1, k2, k3, k5, hC, hbm⟩ := TS.cls
  obtain ⟨oc, od, dV, kV, doc, pm, an, ct, osl, efd, hf⟩ := TS.fn
  obtain ⟨p0, p1, p2, p3, p4, p5, q1, q2, q3, q4, kd, msg, eb, plain⟩ := T.shape
  obtain ⟨ar, har, hself⟩ := T.sc.first
  have hcl : clsIn K C = some { name := nm, bases := bs, mro := .ref C :: bm, ns := N, qualname := q, hasDict := true, slotNames := sn, subclasses := sub, abstract := ab, collection := col, hasDel := false } := by
    unfold clsIn
    rw [hC] <;> rfl
  subst efd
  refine ks_codeAny_call_defAt (fd := ksFn "__init__" qual params body scope dV kV doc pm an (.ref cda) ct cc) (body := body) hroom (X _ _ hf) rfl hlim (codeRec_of X TS.codeIs) rfl hbind T.sc.noCell (fun y hy => ?_) (fun h0 hn k0' => ?_) T.sc.co T.sc.gen T.sc.kind
  · simp only [List.mem_cons, List.not_mem_nil, or_false] at hy
    rcases hy with rfl | rfl
    · exact T.sc.hself
    · exact T.hfld
  rw [eb]
  have hxL : s.heap.objs.size ≠ x := Nat.ne_of_gt (Heap.lt_size hx)
  have v1 : (fun y => List.lookup y ([("self", Value.ref x), (fld, v)] : List (Str × Value)).reverse) ar.arg = some (.ref x) := by
    have e : (ar.arg == fld) = false := beq_eq_false_iff_ne.mpr (by rw [hself]; exact Ne.symm T.ne)
    show List.lookup ar.arg [(fld, v), (("self" : Str), Value.ref x)] = _
    rw [← hself]
    simp [List.lookup, e]
  have v2 : (fun y => List.lookup y ([("self", Value.ref x), (fld, v)] : List (Str × Value)).reverse) fld = some v := by
    simp [List.lookup]
  have v3 : (fun y => List.lookup y ([("self", Value.ref x), (fld, v)] : List (Str × Value)).reverse) "self" = some (.ref x) := by
    have e : (("self" : Str) == fld) = false := beq_eq_false_iff_ne.mpr (Ne.symm T.ne)
    simp [List.lookup, e]
  obtain ⟨pl, he⟩ := plain (ksEnv qual scope s.heap.objs.size f (.ref cda) cc)
  refine ks_wpAt_execs_cons ?_
  refine super_line (m := fun y => List.lookup y ([("self", Value.ref x), (fld, v)] : List (Str × Value)).reverse) TS (X.keeps k0') (hns.keeps k0') (hmb.keeps k0') hbb (k0' _ _ hx) hn v1 har T.sc.hks T.sc.hkc (by rw [hself]; exact T.sc.hself) T.sc.kind T.sc.top he (fun h1 tk1 t1 kk hx1 => ?_)
  refine wpAt_of_wpAny ?_
  have hn1 : h1.Ns s.heap.objs.size (fun y => List.lookup y ([("self", Value.ref x), (fld, v)] : List (Str × Value)).reverse) := hn.at fun o q => kk _ _ hxL q
  have keepAll : ∀ b o, b ≠ x → s.heap.get? b = some o → h1.get? b = some o := fun b o hb e => kk b o hb (k0' b o e)
  have X1 : K.In h1 := fun b o e => keepAll b o (fun z => by rw [z, hnx] at e; cases e) (X b o e)
  -- self.fld = fld
  refine wpAny_execs_cons (plainObj_wpAny_Assign_Attribute ?_)
  refine wpAny_Name (wpAny_loadName_local T.sc.kind T.hfld hn1 v2 ?_) T.dbg
  refine wpAny_Name (wpAny_loadName_local T.sc.kind T.sc.hself hn1 v3 ?_) (by decide)
  refine set_plain X1 (ox := excO C t1) (od := none) ⟨hx1, rfl, rfl, trivial⟩ T.sa ?_
  refine PySem.HandSPX.exc_osa X1 hx1 hcl (show refsVE (.ref C :: bm) = true from hbm) rfl T.noF (fun h3 tk3 dx k3 dn dne hx3 hn3 => ?_)
  show wpAny _ _ (execs _ _) _ _ _
  refine wpAny_execs_nil ?_
  have z : s.heap.objs.size < h1.objs.size := hn1.lt
  exact hq h3 tk3 dx t1 ⟨fun b o hb e => k3 b o hb (keepAll b o hb e), hx3, Nat.le_of_lt (Nat.lt_of_lt_of_le z dn), dne, hn3⟩
end
end L2.Hx

/-! #### Hx5 -/
set_option Elab.async false
set_option linter.all false
set_option maxRecDepth 100000
set_option maxHeartbeats 4000000
namespace L2.Hx
open PySem PySem.Spec PyProof.Rows PySem.W PySem.Calls
open PySem.HandSPX (excO refsVE)

/-- what a class must have to be called -/
structure Calls (K : Frag) (C f : Addr) : Prop where
  iC : findIn K (.ref C) "__init__" = some (some (.ref f))
  tC : typeIn K (.ref f) = some (.type "function")
  kC : keepIn K (.ref C) = true
/-- a new exception at e, its own dict at d -/
structure Made (h h' : Heap) (e C d t1 : Addr) (fld : Str) (v : Value) : Prop where
  keep : ∀ b o, h.get? b = some o → h'.get? b = some o
  new : h.objs.size ≤ e
  obj : h'.get? e = some ({ cls := .ref C, dict := some d, data := .fields #[.ref t1, .none, .none, .none, .bool false, .none] } : Obj)
  big : h.objs.size ≤ d
  apart : d ≠ e
  ns : h'.Ns1 d (fun y => if y = fld then some v else none)

section
variable {prog : Program} {w : World} {A : Around} {E : Value → Shared → Prop} {R : Result → Shared → Prop} {K : Frag} {C f cc cda : Addr} {qual : Str} {params : Arguments}
  {body : List Stmt} {scope : Scope} {fd : FuncData} {fld : Str} {mg mb : Str → Option Value} {v : Value}
theorem fresh_out {h : Heap} {x : Addr} (X : K.In h) (hx : h.objs.size ≤ x) : K.lookup x = none := by
  cases e : K.lookup x with
  | none => rfl
  | some o => exact absurd (Nat.lt_of_lt_of_le (Heap.lt_size (X _ _ e)) hx) (Nat.lt_irrefl _)
theorem made (T : FieldC prog K C f cc cda qual params body scope fd fld) (D : Calls K C f) {s : Shared} {us : List Value} (X : K.In s.heap) (hlim : s.heap.NoLimit)
    (hns : s.heap.Ns mainGlobals mg) (hmb : s.heap.Ns builtinsNs mb) (hbb : ∀ x : Str, x ≠ "__name__" → mb x = bootBuiltins x)
    (hroom : (A.under (.builtin "type.__call__" ⟨.ref C :: us, []⟩)).depth < recursionLimit) (hz : us.length ≤ sizeLine)
    (hbind : ∀ (s' : Shared) (x : Addr), K.In s'.heap → BindsTo s' fd ⟨.ref x :: us, []⟩ [("self", .ref x), (fld, v)])
    (hq : ∀ h' tk e d t1, Made s.heap h' e C d t1 fld v → R (.ok (.ret (.ref e))) { s with heap := h', toks := tk }) :
    codeAny (model prog w) A (.call (.ref C) ⟨us, []⟩) R s := by
  obtain ⟨nm, q, N, bs, bm, sn, sub, ab, col, dd, k0, k1, k2, k3, k5, hC, hbm⟩ := T.toSup.cls
  obtain ⟨hp, g, dr, tk, os⟩ := s
  have k : ∀ b o, hp.get? b = some o → ((hp.push (kdv_tup us)).push (excO C hp.objs.size)).get? b = some o :=
    fun b o e => Heap.get?_push_of_some _ (Heap.get?_push_of_some _ e)
  have hget : ((hp.push (kdv_tup us)).push (excO C hp.objs.size)).get? (hp.objs.size + 1) = some (excO C hp.objs.size) := by heap_get
  have hnx : K.lookup (hp.objs.size + 1) = none := fresh_out X (Nat.le_succ _)
  refine PySem.HandSPX.call_own F.excBase_ValueError (fun X => PySem.HandSPX.refsVE_contains X bm hbm) (X _ _ hC) (looks_findIn X D.iC) (fun self => bind_fn X self D.tC) hz ?_
  refine init_field (s := ⟨(hp.push (kdv_tup us)).push (excO C hp.objs.size), g, dr, tk, os⟩) T (X.keeps k) (hlim.keeps k) (hns.keeps k) (hmb.keeps k) hbb hget hnx hroom (hbind _ _ (X.keeps k)) ?_
  intro h' tk' dx t1 J
  have old : ∀ b o, hp.get? b = some o → h'.get? b = some o := fun b o e => J.keep b o (Nat.ne_of_lt (Nat.lt_succ_of_lt (Heap.lt_size e))) (k b o e)
  have zs : hp.objs.size ≤ dx := by
    have q := J.big
    simp only [Heap.size_push] at q
    omega
  exact ⟨rfl, hq h' tk' (hp.objs.size + 1) dx t1 ⟨old, Nat.le_succ _, J.obj, zs, J.apart, J.ns⟩⟩
end

section
variable {X : Cx} {pins : List (Addr × Obj)} {σ : St} {H : Hp} {s : Shared}
/-- two new objects are laid and tracked -/
theorem laid2 {h' : Heap} {a d : Addr} {oa od : HO} {t' : Nat} (I : Inv X pins σ H s) (k : ∀ b u, s.heap.get? b = some u → h'.get? b = some u)
    (ha : s.heap.objs.size ≤ a) (hd : s.heap.objs.size ≤ d) (hne : d ≠ a) (na : ObjOk X.prog X.w (upd (upd H d od) a oa) h' a oa)
    (nd : ObjOk X.prog X.w (upd (upd H d od) a oa) h' d od) : Inv X pins σ (upd (upd H d od) a oa) { s with heap := h', toks := t' } := by
  have fa : H a = none := I.hok.fresh ha
  have fdn : H d = none := I.hok.fresh hd
  have off : ∀ {b : Addr} {u : HO}, H b = some u → upd (upd H d od) a oa b = some u := fun {b u} e => by
    rw [upd_ne (ne_of_none e fa), upd_ne (ne_of_none e fdn)]
    exact e
  have old : ∀ {b : Addr} {o : Obj}, s.heap.get? b = some o → H b = none → upd (upd H d od) a oa b = none := fun {b o} q n => by
    have lt := Heap.lt_size q
    rw [upd_ne (Nat.ne_of_lt (Nat.lt_of_lt_of_le lt ha)), upd_ne (Nat.ne_of_lt (Nat.lt_of_lt_of_le lt hd))]
    exact n
  refine I.un (t' := t') ⟨fun b o q _ _ _ => k b o q, fun b o q _ _ _ => ⟨o.slots, k b o q⟩, fun b o q n _ => old q n, fun b o q _ => ⟨o, k b o q⟩,
    fun b xs q => off q, fun b o u q => off q, fun b ps q => ⟨#[], by rw [off q]; simp⟩⟩ fun b u e => ?_
  by_cases h1 : b = a
  · subst h1
    rw [upd_same] at e
    cases e
    exact na
  · rw [upd_ne h1] at e
    by_cases h2 : b = d
    · subst h2
      rw [upd_same] at e
      cases e
      exact nd
    · rw [upd_ne h2] at e
      exact (I.hok b u e).stay (fun c v _ q => k c v q) (fun c q => off q) fun c xs q => off q
end

/-- C(..): a new exception that holds its one field -/
def tMkF (C : Addr) (fld : Str) (dvs : List V) (ta : TA) : TE := fun σ H Q => ta σ H fun vs H1 => ∃ v, vs ++ dvs = [v] ∧
  ∀ a d, H1 a = none → H1 d = none → d ≠ a → Q (.ref a) (upd (upd H1 d (exd d [(fld, v)])) a (exo a C (some d)))
section
variable {X : Cx} {C f cc cda : Addr} {qual : Str} {params : Arguments} {body : List Stmt} {scope : Scope} {fd : FuncData} {fld x : Str} {ds : List Value} {dvs : List V}
  {k : Nat} {p pos : Pos} {e : Expr} {es : List Expr} {t : TA}
theorem run_mkF {pins : List (Addr × Obj)} {σ : St} {H : Hp} {s : Shared} {Q : VK} {us : List Value} {vs : List V} {v : V}
    (T : FieldC X.prog X.K C f cc cda qual params body scope fd fld) (D : Calls X.K C f) (hr : Room (k + 1) X.A) (hb : Binds X.K fd ["self", fld] ds) (hd : Vals dvs ds)
    (I : Inv X pins σ H s) (r : Vals vs us) (ev : vs ++ dvs = [v])
    (h : ∀ a d, H a = none → H d = none → d ≠ a → Q (.ref a) (upd (upd H d (exd d [(fld, v)])) a (exo a C (some d)))) :
    wpAny (model X.prog X.w) X.A (call (.ref C) us) (EP X pins σ Q) X.xe s := by
  have r2 : Vals (vs ++ dvs) (us ++ ds) := r.append hd
  rw [ev] at r2
  obtain ⟨mb, hmb, hbb⟩ := I.mod.blt
  cases hu : us ++ ds with
  | nil =>
    rw [hu] at r2
    cases r2
  | cons u rest =>
    rw [hu] at r2
    cases r2 with
    | cons rv rt =>
      cases rt
      have len : us.length ≤ 1 := by
        have := congrArg List.length hu
        simp at this
        omega
      refine wpAny_call (made (v := u) T D I.kIn I.nolimit (I.mod.glob.keeps I.bk) (hmb.keeps I.bk) hbb (hr.make C us []).depth (Nat.le_trans len (by rw [sizeLine_eq]; omega)) (fun s' x X' => ?_) fun h' tk a d t1 M => ?_)
      · have z := hb s' (.ref x :: us) X' (by simp only [List.cons_append, hu, List.length_cons, List.length_nil])
        rw [List.cons_append, hu] at z
        exact z
      · have fa := I.hok.fresh M.new
        have fdn := I.hok.fresh M.big
        have J := laid2 (t' := tk) (oa := exo a C (some d)) (od := exd d [(fld, v)]) I M.keep M.new M.big M.apart (exo_ok M.obj)
          (exd_ok M.ns fun g => by
            have z := relO_put (f := fld) (fs := []) (mA := fun _ => none) rv (fun g => True.intro) g
            exact z)
        exact ⟨.ref a, _, J, rfl, h a d fa fdn M.apart⟩
theorem pe_mkF (T : FieldC X.prog X.K C f cc cda qual params body scope fd fld) (D : Calls X.K C f) (hr : Room (k + 1) X.A) (hb : Binds X.K fd ["self", fld] ds) (hd : Vals dvs ds)
    (hg : Gl X x) (hm : X.mg x = some (.ref C)) (ha : PA X (e :: es) t) (hdb : (x == ("__debug__" : Str)) = false := by decide)
    (he : starEach (e :: es) X.env = (false, eval e X.env) :: starEach es X.env := by rfl) (hpl : (backTo pos (starEach es X.env)).any (·.1) = false := by rfl) :
    PE X (.Call (.Name x p) (e :: es) [] pos) (tMkF C fld dvs t) := by
  constructor
  intro pins s σ H Q I h
  refine wpAny_Call_Name_kw (ld_glob I hg hm ?_ hdb)
  have args := ha.run pos pins s σ H _ I h
  refine PySem.W.callWith_K (h₀ := X.base) I.ok.mod.kin D.kC (thn args fun us s1 z => ?_) he hpl
  obtain ⟨vs, H1, I1, r, v, ev, q⟩ := z
  exact ⟨I1.kIn, run_mkF T D hr hb hd I1 r ev q⟩
theorem pe_mkF0 (T : FieldC X.prog X.K C f cc cda qual params body scope fd fld) (D : Calls X.K C f) (hr : Room (k + 1) X.A) (hb : Binds X.K fd ["self", fld] ds) (hd : Vals dvs ds)
    (hg : Gl X x) (hm : X.mg x = some (.ref C)) (hdb : (x == ("__debug__" : Str)) = false := by decide) :
    PE X (.Call (.Name x p) [] [] pos) (tMkF C fld dvs tNil) := by
  constructor
  intro pins s σ H Q I h
  refine wpAny_Call_Name_kw (ld_glob I hg hm ?_ hdb)
  obtain ⟨v, ev, q⟩ := h
  exact PySem.W.callWith_K0 I.kIn D.kC (run_mkF (us := []) (vs := []) T D hr hb hd I .nil ev q)
end

/-! ### reading a field, isinstance -/
/-- what reading wants of the class -/
structure FldC (K : Frag) (C : Addr) (fld : Str) : Prop where
  ga : findIn K (.ref C) "__getattribute__" = some (some (.builtin "BaseException.__getattribute__"))
  gg : findIn K (.ref C) "__getattr__" = some none
  exC : subIn K (.ref C) (.type "BaseException") = some true
  hdC : hasDictIn K C = true
  noF : findIn K (.ref C) fld = some none
def tFldX (K : Frag) (fld : Str) (te : TE) : TE := fun σ H Q => te σ H fun x H1 => ∃ a C d fs v, x = .ref a ∧ H1 a = some (exo a C (some d)) ∧ H1 d = some (exd d fs) ∧
  FldC K C fld ∧ fs.lookup fld = some v ∧ Q v H1
section
variable {X : Cx} {e : Expr} {te : TE} {fld : Str} {pos : Pos}
theorem pe_fldX (he : PE X e te) (hb : attributeBase e fld X.env (eval e X.env) = eval e X.env := by rfl) : PE X (.Attribute e fld pos) (tFldX X.K fld te) := by
  constructor
  intro pins s σ H Q I h
  refine attr_of hb (thn (he.run pins s σ H _ I h) fun u s1 hh => ?_)
  obtain ⟨x, H1, I1, rx, a, C, d, fs, v, ex, ea, ed, T, hl, q⟩ := hh
  subst ex
  obtain rfl : u = Value.ref a := rx
  obtain ⟨t1, ho⟩ := exo_at I1.hok ea
  obtain ⟨mA, hns, rel⟩ := exd_at I1.hok ed
  obtain ⟨od, hod, hlk⟩ := lookIn_ns hns
  obtain ⟨u, hu, ru⟩ := RelO.some_of (v := v) (o := mA fld) (by rw [← hl]; exact rel fld)
  have J : InstAt s1.heap a { cls := .ref C, dict := some d, data := .fields #[.ref t1, .none, .none, .none, .bool false, .none] } C (some od) := ⟨ho, rfl, rfl, hod⟩
  exact PySem.HandSPX.exc_get I1.kIn J T.ga T.gg T.exC (findObj_own T.hdC T.noF rfl (by rw [hlk, hu])) (handed_of ru) ⟨v, H1, I1.tok _, ru, q⟩
end
end L2.Hx

/-! #### Hx6 -/
set_option Elab.async false
set_option linter.all false
set_option maxRecDepth 100000
set_option maxHeartbeats 4000000
namespace L2.Hx
open PySem PySem.Spec PyProof.Rows PySem.W PySem.Calls

section
variable {prog : Program} {w : World} {A : Around} {E : Value → Shared → Prop} {s : Shared} {K : Frag} {x D : Addr} {ox : Obj} {od : Option Obj}
theorem class_found (C : ExcC K D) : findObj K D od "__class__" = some (.bind (.builtin "getset_descriptor.__get__") (.builtin "object.__class__")) := by
  obtain ⟨cd, hc, _⟩ := any_some C.hd
  unfold findObj
  rw [hc, Option.bind_some, C.ha, Option.bind_some]
  simp [C.hn, C.ht]
theorem class_of_exc (C : ExcC K D) {Q : Option Value → Shared → Prop} (X : K.In s.heap) (I : InstAt s.heap x ox D od)
    (h : Q (some (.ref D)) { s with toks := s.toks + 1 }) : wpAny (model prog w) A (getAttr? (.ref x) "__class__") Q E s := by
  have hf := class_found (od := od) C
  obtain ⟨hp, g, d, t, os⟩ := s
  have lType := I.type (M := model prog w)
  have lGa := looks_findIn (M := model prog w) X C.hg
  have lGt := looks_findIn (M := model prog w) X C.hk
  have lFind := looks_find (M := model prog w) X I hf
  have isExc : Looks (model prog w) hp (isInstance (.ref x) (.type "BaseException")) true := lType.andThen (looks_subIn X C.hs)
  have notObj : (Value.builtin "BaseException.__getattribute__" == Value.builtin "object.__getattribute__") = false := by decide +kernel
  have notObj2 : (onTheHeap (Value.ref D) && Value.builtin "BaseException.__getattribute__" == Value.builtin "object.__getattribute__") = false := by
    rw [notObj]
    rfl
  unfold getAttr? getAttrBy? getAttrBy
  refine wpAny_bind (wpAny_mkText (wpAny_bind (wpAny_attempt (wpAny_holding (wpAny_bind (lType.at (wpAny_bind (lGa.at ?_))))))))
  show wpAny _ _ (if (onTheHeap (Value.ref D) && Value.builtin "BaseException.__getattribute__" == Value.builtin "object.__getattribute__") = true then _ else _) _ _ _
  rw [notObj2, if_neg Bool.false_ne_true]
  unfold getAttrByItsOwn hookBefore
  refine wpAny_bind ?_
  rw [if_pos (show onTheHeap (Value.ref D) = true from rfl)]
  refine lGt.at (wpAny_bind (wpAny_attempt (wpAny_holding ?_)))
  unfold callGetattribute
  rw [show (false && onTheHeap (Value.builtin "BaseException.__getattribute__")) = false from rfl, if_neg Bool.false_ne_true]
  unfold boundAndCalled
  rw [PySem.F.excAttr_ValueError.ga.bind (.ref x)]
  refine wpAny_bind (wpAny_pure ?_)
  show wpAny _ _ (call (.builtin "BaseException.__getattribute__") [.ref x, .str "__class__" t]) _ _ _
  refine wpAny_call (codeAny_call_builtin PySem.F.excAttr_ValueError.ga.plain PySem.F.entry_bexc_ga ?_)
  refine @check_slot (model prog w) _ _ ⟨hp, g, d, t + 1, os⟩ "BaseException.__getattribute__" "BaseException" "__getattribute__" (.ref x) [.str "__class__" t] [] _ (by decide +kernel) (by decide +kernel) isExc (PySem.F.args_bexc_ga (.ref x) (.str "__class__" t)) ?_
  unfold Builtin.«object.__getattribute__»
  refine wpAny_bind (wpAny_of_eq (a := ((Value.ref x : Value), [Value.str "__class__" t])) (by first | rfl | (simp only [slotArgs]; rfl)) ?_)
  refine wpAny_bind (wpAny_pure (wpAny_bind (lType.at (wpAny_bind (lFind.at ?_)))))
  show wpAny _ _ (holding [Value.builtin "object.__class__"] (call (.builtin "getset_descriptor.__get__") [.builtin "object.__class__", .ref x, .ref D]) >>= ret) _ _ _
  refine wpAny_bind (wpAny_holding (wpAny_call (class_get (s := ⟨hp, g, d, t + 1, os⟩) (ox := ox) (od := od) X I C.hm ?_)))
  refine wpAny_pure ?_
  show wpAny _ _ (handedOut (.ref D)) _ _ _
  rw [handedOut_of (v := .ref D) rfl]
  first
    | exact wpAny_pure (wpAny_pure h)
    | exact wpAny_pure h
    | exact wpAny_pure (wpAny_bind (wpAny_pure (wpAny_pure h)))
theorem kitx_exc (C : ExcC K D) : KitX K (.ref x) (.ref D) (fun h => InstAt h x ox D od) := by
  obtain ⟨cdD, hcD, _⟩ := any_some C.hd
  unfold clsIn at hcD
  split at hcD
  · rename_i c0 d0 cd0 sl0 ho
    constructor
    · exact fun _ _ _ I => I.type
    · intro _ _ X _ A' Q' E' s' k q
      unfold isType loadHead
      exact wpAny_bind (wpAny_loadPart (k _ _ (X _ _ ho)) (wpAny_pure q))
    · intro h tp dd its n sl X htp
      refine Bool.eq_false_iff.mpr fun q => ?_
      have e : D = tp := Value.ref.inj (beq_iff_eq.mp q)
      subst e
      have z := (X _ _ ho).symm.trans htp
      cases z
    · exact fun X I k => class_of_exc C X I k
  · cases hcD
end

/-- isinstance(e, c), e an exception that is held as a value -/
def rIsX (K : Frag) : List V → Hp → VK → Prop := fun xs H Q => ∃ (a D d : Addr) (fs : List (Str × V)) (c : V) (cv : Value) (b : Bool), xs = [.ref a, c] ∧ H a = some (exo a D (some d)) ∧
  H d = some (exd d fs) ∧ ExcC K D ∧ (∀ u, RelV c u → u = cv) ∧ kitOne K (.ref D) cv = some b ∧ Q (.bl b) H
theorem call_isX {X : Cx} : CallR X (.builtin "isinstance") (rIsX X.K) := by
  intro pins s σ H xs us Q I r h
  obtain ⟨a, D, d, fs, c, cv, b, rfl, ea, ed, C, hcv, e, q⟩ := h
  cases r with
  | cons rx rr =>
    cases rr with
    | cons rt rr =>
      cases rr
      cases rx
      have ec := hcv _ rt
      subst ec
      obtain ⟨t1, ho⟩ := exo_at I.hok ea
      obtain ⟨mA, ⟨o, es, ep, ho2, _⟩, _⟩ := exd_at I.hok ed
      have J : InstAt s.heap a { cls := .ref D, dict := some d, data := .fields #[.ref t1, .none, .none, .none, .bool false, .none] } D (some o) := ⟨ho, rfl, rfl, ho2⟩
      exact kia_one (kitx_exc C) I.kIn J e (fun z => nomatch z) fun tk => ⟨.bl b, H, I.kept (t' := tk) fun _ _ z => z, rfl, q⟩
end L2.Hx

/-! #### Hx7 -/
set_option Elab.async false
set_option linter.all false
set_option maxRecDepth 100000
set_option maxHeartbeats 4000000
/-! Hx7: rules that serve several kinds of values at once, calls of the text's own defs as one thing. -/
namespace L2.Hx
open PySem PySem.Spec PyProof.Rows

theorem OpR.or {X : Cx} {f : Value → Value → Sem Value} {r r' : R2} (a : OpR X f r) (b : OpR X f r') : OpR X f (fun x y H Q => r x y H Q ∨ r' x y H Q) := by
  intro pins s σ H x y v u Q I rx ry h
  rcases h with h | h
  · exact a pins s σ H x y v u Q I rx ry h
  · exact b pins s σ H x y v u Q I rx ry h
theorem CallR.or {X : Cx} {f : Value} {r r' : List V → Hp → VK → Prop} (a : CallR X f r) (b : CallR X f r') : CallR X f (fun xs H Q => r xs H Q ∨ r' xs H Q) := by
  intro pins s σ H xs us Q I r h
  rcases h with h | h
  · exact a pins s σ H xs us Q I r h
  · exact b pins s σ H xs us Q I r h
theorem PE.or {X : Cx} {e : Expr} {t u : TE} (a : PE X e t) (b : PE X e u) : PE X e (fun σ H Q => t σ H Q ∨ u σ H Q) := by
  constructor
  intro pins s σ H Q I h
  rcases h with h | h
  · exact a.run pins s σ H Q I h
  · exact b.run pins s σ H Q I h

/-- a def of the text that is called -/
structure Callee (P : Program) (w : World) (K : PySem.W.Frag) (mg : Str → Option Value) (base : Heap) (k : Nat) (x : Str) (ps : List Str) (sp : Sp) : Prop where
  is : ∃ (f : Addr) (fd : FuncData), FnG P w K mg base CX0 k f fd ps sp ∧ mg x = some (.ref f) ∧ PySem.W.keepIn K (.ref f) = true ∧ Binds K fd ps []
section
variable {X : Cx} {k : Nat} {x : Str} {ps : List Str} {sp : Sp} {p pos : Pos} {e : Expr} {es : List Expr} {t : TA}
theorem pe_cal (c : Callee X.prog X.w X.K X.mg X.base k x ps sp) (gd : X.A.guards = some []) (hr : Room k X.A) (hg : Gl X x) (ha : PA X (e :: es) t)
    (hdb : (x == ("__debug__" : Str)) = false := by decide)
    (he : starEach (e :: es) X.env = (false, eval e X.env) :: starEach es X.env := by rfl)
    (hpl : (backTo pos (starEach es X.env)).any (·.1) = false := by rfl) :
    PE X (.Call (.Name x p) (e :: es) [] pos) (tCall sp [] E0 t) := by
  obtain ⟨f, fd, F, hm, kp, b⟩ := c.is
  exact pe_callG F gd hr hg hm kp b .nil pass0 ha hdb he hpl
theorem pe_cal0 (c : Callee X.prog X.w X.K X.mg X.base k x ps sp) (gd : X.A.guards = some []) (hr : Room k X.A) (hg : Gl X x)
    (hdb : (x == ("__debug__" : Str)) = false := by decide) : PE X (.Call (.Name x p) [] [] pos) (tCall sp [] E0 tNil) := by
  obtain ⟨f, fd, F, hm, kp, b⟩ := c.is
  exact pe_callG0 F gd hr hg hm kp b .nil pass0 hdb
end

section
variable {X : Cx}
/-! ### operators on values -/
def CPowB : Int → Int → Prop := fun i j => 0 ≤ j ∧ (Builtin.Int.intBits i : Int) * j ≤ 2 ^ 27
theorem oPow : OpR X (binaryOp .Pow) (rI CPowB fun i j => .int (i ^ j.toNat)) := opI fun _ _ _ _ _ _ _ hc q => pow_int hc.1 hc.2 q
def rAddI : R2 := rI0 fun i j => .int (i + j)
def rAddS : R2 := fun x y H Q => ∃ i j, x = .str i ∧ y = .str j ∧ i.length + j.length ≤ sizeLine ∧ Q (.str (i ++ j)) H
theorem oAdd : OpR X (binaryOp .Add) (fun x y H Q => rAddI x y H Q ∨ rCat x y H Q ∨ rCatA X.K x y H Q) := OpR.or op_add (OpR.or op_cat op_catA)
theorem oSub : OpR X (binaryOp .Sub) (rI0 fun i j => .int (i - j)) := op_sub
theorem oMul : OpR X (binaryOp .Mult) (fun x y H Q => rI CMulW (fun i j => .int (i * j)) x y H Q ∨ rRep x y H Q) := OpR.or op_mulW op_rep
theorem oFdiv : OpR X (binaryOp .FloorDiv) (rI CDivW fun i j => .int (i / j)) := op_fdivW
theorem oMod : OpR X (binaryOp .Mod) (rI (fun _ j => 0 < j) fun i j => .int (i % j)) := op_mod
theorem oEq (hu : X.A.units + 64 < cLine) : OpR X (compareOp .Eq) (fun x y H Q => rEq x y H Q ∨ rEqD X.K x y H Q) := OpR.or op_eq (op_eqD hu)
theorem oNe (hu : X.A.units + 64 < cLine) : OpR X (compareOp .NotEq) (fun x y H Q => rNe x y H Q ∨ rNeD X.K x y H Q) := OpR.or op_ne (op_neD hu)
theorem ixA : IxR X (rIx X.K) := ix_seq
theorem slA : SlR X (fun x lo hi H Q => rSlL X.K x lo hi H Q ∨ rSlA X.K x lo hi H Q) := sl_list.or sl_tupA
theorem cIsi : CallR X (.builtin "isinstance") (fun xs H Q => rIsi X.K xs H Q ∨ rIsX X.K xs H Q) := CallR.or call_isi call_isX
end

/-! ### what a reading asks, answered -/
section
variable {K : PySem.W.Frag} {H : Hp} {Q : VK}
theorem addI {i j : Int} (h : Q (.int (i + j)) H) : (rAddI (.int i) (.int j) H Q ∨ rCat (.int i) (.int j) H Q ∨ rCatA K (.int i) (.int j) H Q) := .inl ⟨i, j, rfl, rfl, h⟩
theorem mulI {i j : Int} (hc : CMulW i j) (h : Q (.int (i * j)) H) : (rI CMulW (fun i j => .int (i * j)) (.int i) (.int j) H Q ∨ rRep (.int i) (.int j) H Q) := .inl ⟨i, j, rfl, rfl, hc, h⟩
end
end L2.Hx

/-! #### Hx8 -/
set_option Elab.async false
set_option linter.all false
set_option maxRecDepth 100000
set_option maxHeartbeats 4000000
/-! Hx8: what a reading comes to, told by what is true of the value in every heap that keeps what was tracked. -/
namespace L2.Hx
open PySem PySem.Spec PyProof.Rows

abbrev VP := V → Hp → Prop
/-- the expression comes to a value of which P holds; the heap only grows -/
def Ev (te : TE) (σ : St) (H : Hp) (P : VP) : Prop := ∀ H1, Same H H1 → ∀ Q : VK, (∀ v H2, Same H1 H2 → P v H2 → Q v H2) → te σ H1 Q
def EvA (ta : TA) (σ : St) (H : Hp) (P : List V → Hp → Prop) : Prop := ∀ H1, Same H H1 → ∀ Q : List V → Hp → Prop, (∀ vs H2, Same H1 H2 → P vs H2 → Q vs H2) → ta σ H1 Q
def EvT (tt : TT) (σ : St) (H : Hp) (P : Bool → Prop) : Prop := ∀ H1, Same H H1 → ∀ Q : Bool → Hp → Prop, (∀ b H2, Same H1 H2 → P b → Q b H2) → tt σ H1 Q
/-- kept by growth -/
def Mono (P : VP) : Prop := ∀ v H H', Same H H' → P v H → P v H'
def is (v : V) : VP := fun x _ => x = v
theorem mono_is {v : V} : Mono (is v) := fun _ _ _ _ h => h
theorem Same.grow {H H1 : Hp} {a : Addr} {o : HO} (s : Same H H1) (h : H1 a = none) : Same H (upd H1 a o) := fun b u e => by
  have e1 := s b u e
  rw [upd_ne (ne_of_none e1 h)]
  exact e1

section
variable {K : PySem.W.Frag} {σ : St} {H H1 : Hp} {te ta tb : TE} {tt tu : TT} {P P1 P2 : VP} {v : V}
theorem Ev.mono (h : Ev te σ H P) (s : Same H H1) : Ev te σ H1 P := fun H2 s2 => h H2 (s.trans s2)
theorem Ev.weak (h : Ev te σ H P) (k : ∀ v H', Same H H' → P v H' → P1 v H') : Ev te σ H P1 := fun H1 s Q q => h H1 s Q fun v H2 s2 p => q v H2 s2 (k v H2 (s.trans s2) p)
theorem ev_var {i : Nat} (h : σ[i]? = some (some v)) : Ev (tVar i) σ H (is v) := fun H1 s Q q => ⟨v, h, q v H1 (Same.refl H1) rfl⟩
theorem ev_c {c : V} : Ev (tC c) σ H (is c) := fun H1 s Q q => q c H1 (Same.refl H1) rfl
theorem evA_nil : EvA tNil σ H (fun vs _ => vs = []) := fun H1 s Q q => q [] H1 (Same.refl H1) rfl
theorem evA_cons {t : TA} {R : List V → Hp → Prop} (h1 : Ev te σ H P) (h2 : EvA t σ H R) (m : Mono P) : EvA (tCons te t) σ H (fun vs H' => ∃ x r, vs = x :: r ∧ P x H' ∧ R r H') :=
  fun H1 s Q q => h1 H1 s _ fun x H2 s2 p => h2 H2 (s.trans s2) _ fun r H3 s3 pr => q (x :: r) H3 (s2.trans s3) ⟨x, r, rfl, m _ _ _ s3 p, pr⟩
theorem EvA.weak {t : TA} {R R' : List V → Hp → Prop} (h : EvA t σ H R) (k : ∀ vs H', Same H H' → R vs H' → R' vs H') : EvA t σ H R' := fun H1 s Q q => h H1 s Q fun v H2 s2 p => q v H2 s2 (k v H2 (s.trans s2) p)
/-- a call of an own def that only grows the heap -/
def spGrow (pre : List V → Hp → Prop) (post : List V → V → Hp → Prop) : Sp := fun vs H Q _ => pre vs H ∧ ∀ v H', Same H H' → post vs v H' → Q v H'
theorem ev_call {t : TA} {pre : List V → Hp → Prop} {post : List V → V → Hp → Prop} {R : List V → Hp → Prop} (ha : EvA t σ H R) (hp : ∀ vs H', Same H H' → R vs H' → pre vs H') :
    Ev (tCall (spGrow pre post) [] E0 t) σ H (fun v H' => ∃ vs H0, Same H H0 ∧ Same H0 H' ∧ R vs H0 ∧ post vs v H') := fun H1 s Q q => ha H1 s _ fun vs H2 s2 r => by
  show spGrow pre post (vs ++ []) H2 Q E0
  rw [List.append_nil]
  exact ⟨hp vs H2 (s.trans s2) r, fun v H3 s3 p => q v H3 (s2.trans s3) ⟨vs, H2, s.trans s2, s3, r, p⟩⟩
/-- a new list, a new tuple of values that stand already -/
theorem ev_lst {t : TA} {R : List V → Hp → Prop} (ha : EvA t σ H R) (hz : ∀ vs H', R vs H' → vs.length ≤ sizeLine) (m : ∀ vs H H', Same H H' → R vs H → R vs H') :
    Ev (tLst t) σ H (fun x H' => ∃ a vs, x = .ref a ∧ H' a = some (.lst vs) ∧ H a = none ∧ R vs H') := fun H1 s Q q => ha H1 s _ fun vs H2 s2 r =>
  ⟨hz vs H2 r, fun p hp => q _ _ (Same.grow s2 hp) ⟨p, vs, rfl, upd_same, (s.trans s2).free hp, m _ _ _ (Same.grow (Same.refl _) hp) r⟩⟩
theorem ev_tup {t : TA} {R : List V → Hp → Prop} (ha : EvA t σ H R) (hz : ∀ vs H', R vs H' → vs.length ≤ sizeLine) (m : ∀ vs H H', Same H H' → R vs H → R vs H') :
    Ev (tTup t) σ H (fun x H' => ∃ a vs, x = .ref a ∧ H' a = some (.tup vs) ∧ H a = none ∧ R vs H') := fun H1 s Q q => ha H1 s _ fun vs H2 s2 r =>
  ⟨hz vs H2 r, fun p hp => q _ _ (Same.grow s2 hp) ⟨p, vs, rfl, upd_same, (s.trans s2).free hp, m _ _ _ (Same.grow (Same.refl _) hp) r⟩⟩
/-- an operator on two values -/
theorem ev_op {r : R2} (ha : Ev ta σ H P1) (hb : Ev tb σ H P2) (m : Mono P1) (hr : ∀ x y H', Same H H' → P1 x H' → P2 y H' → ∀ Q : VK, (∀ z H2, Same H' H2 → P z H2 → Q z H2) → r x y H' Q) :
    Ev (tOp r ta tb) σ H P := fun H1 s Q q => ha H1 s _ fun x H2 s2 p => hb H2 (s.trans s2) _ fun y H3 s3 p3 =>
  hr x y H3 ((s.trans s2).trans s3) (m _ _ _ s3 p) p3 Q fun z H4 s4 pz => q z H4 ((s2.trans s3).trans s4) pz
theorem ev_cb {t : TA} {r : List V → Hp → VK → Prop} {R : List V → Hp → Prop} (ha : EvA t σ H R) (hr : ∀ vs H', Same H H' → R vs H' → ∀ Q : VK, (∀ z H2, Same H' H2 → P z H2 → Q z H2) → r vs H' Q) :
    Ev (tCB r t) σ H P := fun H1 s Q q => ha H1 s _ fun vs H2 s2 rv => hr vs H2 (s.trans s2) rv Q fun z H3 s3 pz => q z H3 (s2.trans s3) pz

/-! ### statements -/
variable {D : Ends} {t u : TS}
theorem st_set {i : Nat} (h : Ev te σ H P) (k : ∀ x H', Same H H' → P x H' → u D (σ.set i (some x)) H') : tSeq (tAsg te (gName i)) u D σ H := h H (Same.refl H) _ fun x H2 s p => k x H2 s p
theorem st_ret (h : Ev te σ H P) (k : ∀ x H', Same H H' → P x H' → D.rt x H') : tRet te D σ H := h H (Same.refl H) _ fun x H2 s p => k x H2 s p
theorem st_if {B : Bool → Prop} (h : EvT tt σ H B) (k : ∀ b H', Same H H' → B b → if b = true then t D σ H' else u D σ H') : tIfS tt t u D σ H := h H (Same.refl H) _ fun b H2 s p => k b H2 s p
/-- a test whose outcome is known -/
theorem evT_cmp {b : Bool} (h : Ev te σ H (is (.bl b))) : EvT (tTest te) σ H (fun c => c = b) := fun H1 s Q q => h H1 s _ fun v H2 s2 p => ⟨b, p, q b H2 s2 rfl⟩
theorem evT_tru {b : Bool} (h : Ev te σ H (is (.bl b))) : EvT (fun σ H Q => te σ H fun x H' => ∃ k, TruV K x H' k ∧ Q k H') σ H (fun c => c = b) := fun H1 s Q q => h H1 s _ fun v H2 s2 p => by
  obtain rfl : v = .bl b := p
  exact ⟨b, rfl, q b H2 s2 rfl⟩
theorem evT_not {b : Bool} (h : EvT tt σ H (fun c => c = b)) : EvT (tNot tt) σ H (fun c => c = !b) := fun H1 s Q q => h H1 s _ fun c H2 s2 p => q (!c) H2 s2 (by rw [p])
theorem evT_or {a b : Bool} (h1 : EvT tt σ H (fun c => c = a)) (h2 : EvT tu σ H (fun c => c = b)) : EvT (tOr tt tu) σ H (fun c => c = (a || b)) := fun H1 s Q q => h1 H1 s _ fun c H2 s2 p => by
  subst p
  cases c with
  | true =>
    rw [if_pos rfl]
    exact q true H2 s2 rfl
  | false =>
    rw [if_neg Bool.false_ne_true]
    exact h2 H2 (s.trans s2) _ fun c H3 s3 p => q c H3 (s2.trans s3) (by rw [p]; rfl)
end
end L2.Hx

/-! #### Hx9 -/
set_option Elab.async false
set_option linter.all false
set_option maxRecDepth 100000
set_option maxHeartbeats 4000000
/-! Hx9: an own exception class called by a keyword. -/
namespace L2.Hx
open PySem PySem.Spec PyProof.Rows
open PySem.HandSPX (excO refsVE)
section
variable {M : Model} {prog : Program} {w : World} {A : Around} {E : Value → Shared → Prop} {R : Result → Shared → Prop} {h : Heap} {g : Array GenState} {d : Drawn} {t : Nat} {os : OsState}
variable {nm q : Str} {C N : Addr} {bs bm bmB : List Value} {hdct : Bool} {sn : List Str} {sub : List Value} {ab : Bool} {col : Option Bool} {dd : Option Addr} {k0 k1 k2 k3 k5 : Option Value} {B newId initId : String} {kw : List (Str × Value)}
theorem kw_check_new (F : ExcBaseFacts B newId initId bmB) (hT : ∀ X : String, bm.contains (.type X) = bmB.contains (.type X)) {Q : Unit → Shared → Prop}
    (hC : h.get? C = some (excClassObj nm q C N bs bm hdct sn sub ab col dd k0 k1 k2 k3 k5 newId)) (hq : Q () ⟨h, g, d, t, os⟩) :
    wpAny M A (checkBuiltinCall newId ⟨[.ref C], kw⟩) Q E ⟨h, g, d, t, os⟩ := by
  have isB : (Value.ref C :: bm).contains (.type B) = true := by rw [List.contains_cons, hT, F.hasB, Bool.or_true]
  have star := F.noStar
  simp only [checkBuiltinCall, F.newKind, F.newSplit, F.newRow]
  repeat (first | refine wpAny_loadPart_at hC ?_ | (refine wpAny_isSubtype_exc hC ?_; rw [isB]) | refine wpAny_staticBase_exc hC ?_ | refine wpAny_madeBy_exc hC ?_ | simp only [bne_self_eq_false, Bool.false_eq_true, if_false] | wp_step)
  exact hq
theorem kw_new (F : ExcBaseFacts B newId initId bmB) (hT : ∀ X : String, bm.contains (.type X) = bmB.contains (.type X))
    (hC : h.get? C = some (excClassObj nm q C N bs bm hdct sn sub ab col dd k0 k1 k2 k3 k5 newId))
    (hq : R (.ok (.ret (.ref (h.objs.size + 1)))) ⟨(h.push (PySem.W.kdv_tup [])).push (excO C h.objs.size), g, d, t, os⟩) :
    codeAny (model prog w) A (.builtin newId ⟨[.ref C], kw⟩) R ⟨h, g, d, t, os⟩ := by
  have ends := F.ends
  have isB : (Value.ref C :: bm).contains (.type B) = true := by rw [List.contains_cons, hT, F.hasB, Bool.or_true]
  have isA : (Value.ref C :: bm).contains (.type "AttributeError") = false := by rw [List.contains_cons, hT, F.noAttr]; rfl
  have isN : (Value.ref C :: bm).contains (.type "NameError") = false := by rw [List.contains_cons, hT, F.noName]; rfl
  refine codeAny_builtinAt F.entry ?_
  unfold Builtin.«BaseException.__new__»
  refine PySem.wpAt_bind ?_
  show PySem.wpAt _ _ _ (stack >>= _) _ _ _
  refine PySem.wpAt_bind (PySem.wpAt_stack fun p below => PySem.wpAt_of_wpAny ?_)
  wp_walk
  refine PySem.wpAt_of_wpAny ?_
  rw [F.owner]
  repeat (first | with_reducible refine wpAny_madeHere_exc F.canon hC ?_ | with_reducible refine wpAny_loadPart_at hC ?_ | (with_reducible refine wpAny_isSubtype_exc hC ?_; first | rw [isB] | rw [isA] | rw [isN]) | wp_step)
  show R _ _
  rw [Heap.size_push]
  exact hq

theorem kw_type_call (F : ExcBaseFacts B newId initId bmB) (hT : ∀ X : String, bm.contains (.type X) = bmB.contains (.type X)) {fI : Addr} {Q : Fin → Shared → Prop}
    (hC : h.get? C = some (excClassObj nm q C N bs bm hdct sn sub ab col dd k0 k1 k2 k3 k5 newId))
    (hi : W.Looks (model prog w) h (typeLookup (.ref C) "__init__") (some (.ref fI))) (hb : ∀ self, W.Looks (model prog w) h (bindSpecial (.ref fI) self) (.ref fI, [self]))
    (hq : codeAny (model prog w) A (.call (.ref fI) ⟨[.ref (h.objs.size + 1)], kw⟩)
      (fun r s' => match r with | .ok (.ret v) => v = .none ∧ Q (.done (.ret (.ref (h.objs.size + 1)))) s' | .ok _ => False | .error e => E e s')
      ⟨(h.push (PySem.W.kdv_tup [])).push (excO C h.objs.size), g, d, t, os⟩) :
    wpAny (model prog w) A (Builtin.«type.__call__» ⟨[.ref C], kw⟩) Q E ⟨h, g, d, t, os⟩ := by
  repeat (first | with_reducible refine wpAny_loadPart_at hC ?_ | with_reducible refine wpAny_madeBy_exc hC ?_ | wp_step)
  refine codeAny_call_builtin_code (Code.quiet_builtin _ F.quiet) (kw_check_new F hT hC ?_)
  refine kw_new F hT hC ?_
  show wpAny _ _ _ _ _ _
  have k : ∀ b o, h.get? b = some o → ((h.push (PySem.W.kdv_tup [])).push (excO C h.objs.size)).get? b = some o := fun b o e => Heap.get?_push_of_some _ (Heap.get?_push_of_some _ e)
  have stillC := k _ _ hC
  have newOne : ((h.push (PySem.W.kdv_tup [])).push (excO C h.objs.size)).get? (h.objs.size + 1) = some (excO C h.objs.size) := by heap_get
  have inMro : (Value.ref C :: bm).contains (.ref C) = true := by simp
  have i1 := hi.keeps k
  have b1 := (hb (.ref (h.objs.size + 1))).keeps k
  unfold isInstance
  repeat (first | with_reducible refine wpAny_loadPart_at newOne ?_ | (with_reducible refine wpAny_isSubtype_exc stillC ?_; rw [inMro]) | wp_step)
  show wpAny _ _ (typeLookup (.ref C) _) _ _ _
  refine i1.at ?_
  refine wpAny_holding (wpAny_bind (b1.at ?_))
  refine wpAny_bind (wpAny_call (codeAny_mono hq fun r s' z => ?_))
  rcases r with e | (v | _ | _ | _) <;> first | exact z | exact z.elim | skip
  obtain ⟨rfl, z⟩ := z
  first
    | exact wpAny_pure (wpAny_pure z)
    | (wp_walk; exact z)
theorem kw_call (F : ExcBaseFacts B newId initId bmB) (hT : ∀ X : String, bm.contains (.type X) = bmB.contains (.type X)) {fI : Addr}
    (hC : h.get? C = some (excClassObj nm q C N bs bm hdct sn sub ab col dd k0 k1 k2 k3 k5 newId))
    (hi : W.Looks (model prog w) h (typeLookup (.ref C) "__init__") (some (.ref fI))) (hb : ∀ self, W.Looks (model prog w) h (bindSpecial (.ref fI) self) (.ref fI, [self]))
    (hq : codeAny (model prog w) (A.under (.builtin "type.__call__" ⟨[.ref C], kw⟩)) (.call (.ref fI) ⟨[.ref (h.objs.size + 1)], kw⟩) (W.InitBack (h.objs.size + 1) R)
      ⟨(h.push (PySem.W.kdv_tup [])).push (excO C h.objs.size), g, d, t, os⟩) :
    codeAny (model prog w) A (.call (.ref C) ⟨[], kw⟩) R ⟨h, g, d, t, os⟩ := by
  have f1 := PySem.tc_lookup
  have f2 := PySem.tc_bind (.ref C)
  have hTy : (⟨h, g, d, t, os⟩ : Shared).TypeIs (.ref C) "type" := ⟨_, hC, rfl⟩
  refine codeAny_of_tree ?_
  show wpAny _ _ (callAny (.ref C) _) _ _ _
  repeat (any_goals (first | assumption | with_reducible refine wpAny_loadPart_at hC ?_ | wp_step))
  refine ⟨rfl, ?_⟩
  refine codeAny_call_builtin_at (Code.quiet_builtin _ (by decide +kernel)) PySem.entry_typeCall (wpAny_check_type_call_sub hC (kw_type_call F hT hC hi hb ?_))
  refine codeAny_mono hq fun r s' z => ?_
  rcases r with e | (v | _ | _ | _) <;> exact z
end

/-- an exception class of the text, with all that its calls want -/
structure XCls (prog : Program) (K : PySem.W.Frag) (mg : Str → Option Value) (x fld : Str) (C : Addr) : Prop where
  is : ∃ (f cc cda : Addr) (qual : Str) (params : Arguments) (body : List Stmt) (scope : Scope) (fd : FuncData),
    FieldC prog K C f cc cda qual params body scope fd fld ∧ Calls K C f ∧ Binds K fd ["self", fld] [] ∧ Binds K fd ["self", fld] [.none] ∧
    ∀ (s : Shared) (x v : Value), K.In s.heap → BindsTo s fd ⟨[x], [(fld, v)]⟩ [("self", x), (fld, v)]
  m : mg x = some (.ref C)
  rd : FldC K C fld
  ex : ExcC K C
section
variable {X : Cx} {x fld : Str} {C : Addr} {k : Nat} {p pos kpos : Pos} {e : Expr} {t : TA} {te : TE}
theorem pe_mkX (c : XCls X.prog X.K X.mg x fld C) (hr : Room (k + 1) X.A) (hg : Gl X x) (ha : PA X [e] t) (hdb : (x == ("__debug__" : Str)) = false := by decide)
    (he : starEach [e] X.env = (false, eval e X.env) :: starEach [] X.env := by rfl) : PE X (.Call (.Name x p) [e] [] pos) (tMkF C fld [] t) := by
  obtain ⟨f, cc, cda, qual, params, body, scope, fd, T, D, b, _⟩ := c.is
  exact pe_mkF T D hr b .nil hg c.m ha hdb he
theorem pe_mkX0 (c : XCls X.prog X.K X.mg x fld C) (hr : Room (k + 1) X.A) (hg : Gl X x) (hdb : (x == ("__debug__" : Str)) = false := by decide) :
    PE X (.Call (.Name x p) [] [] pos) (tMkF C fld [.non] tNil) := by
  obtain ⟨f, cc, cda, qual, params, body, scope, fd, T, D, _, b, _⟩ := c.is
  exact pe_mkF0 T D hr b (.cons rfl .nil) hg c.m hdb
/-- C(fld=e) -/
theorem pe_mkXK (c : XCls X.prog X.K X.mg x fld C) (hr : Room (k + 1) X.A) (hg : Gl X x) (ha : PE X e te) (hdb : (x == ("__debug__" : Str)) = false := by decide)
    (hks : (backToKw pos (keywordEach [⟨some fld, e, kpos⟩] X.env)).filterMap (·.1) = [fld] := by rfl)
    (hall : (backToKw pos (keywordEach [⟨some fld, e, kpos⟩] X.env)).all (·.1.isSome) = true := by rfl) :
    PE X (.Call (.Name x p) [] [⟨some fld, e, kpos⟩] pos) (tMkF C fld [] (tCons te tNil)) := by
  obtain ⟨f, cc, cda, qual, params, body, scope, fd, T, D, _, _, b⟩ := c.is
  obtain ⟨nm, q, N, bs, bm, sn, sub, ab, col, dd, k0, k1, k2, k3, k5, hC, hbm⟩ := T.toSup.cls
  constructor
  intro pins s σ H Q I h
  refine wpAny_Call_Name_kw (ld_glob I hg c.m ?_ hdb)
  have kws : PK X [⟨some fld, e, kpos⟩] (tCons te tNil) := pk_cons ha pk_nil
  refine PySem.W.callWith_KW0 (h₀ := X.base) I.ok.mod.kin D.kC hall (thn (kws.run pos pins s σ H _ I h) fun us s1 z => ?_) (by
    have e0 : ∀ l : List (Option Str × Sem Value), l.all (·.1.isSome) = true → l.any (·.1.isNone) = false := by
      intro l
      induction l with
      | nil => intro _; rfl
      | cons a l ih =>
        intro q
        simp only [List.all_cons, Bool.and_eq_true] at q
        simp only [List.any_cons, ih q.2, Bool.or_false]
        cases h : a.1 with
        | none =>
          rw [h] at q
          exact absurd q.1 (by simp)
        | some _ => rfl
    have e1 := e0 _ hall
    rw [e1]
    rfl)
  obtain ⟨vs, H1, I1, r, v, ev, q⟩ := z
  refine ⟨I1.kIn, ?_⟩
  rw [hks]
  rw [List.append_nil] at ev
  subst ev
  cases r with
  | cons rv rt =>
    rename_i u ut
    cases rt
    obtain ⟨mb, hmb, hbb⟩ := I1.mod.blt
    show wpAny _ _ (call (.ref C) [] [(fld, u)]) _ _ _
    obtain ⟨hp, g, dr, tk, os⟩ := s1
    have kk : ∀ b o, hp.get? b = some o → ((hp.push (PySem.W.kdv_tup [])).push (excO C hp.objs.size)).get? b = some o := fun b o e => Heap.get?_push_of_some _ (Heap.get?_push_of_some _ e)
    have newOne : ((hp.push (PySem.W.kdv_tup [])).push (excO C hp.objs.size)).get? (hp.objs.size + 1) = some (excO C hp.objs.size) := by heap_get
    have room : (X.A.under (.builtin "type.__call__" ⟨[.ref C], [(fld, u)]⟩)).depth < recursionLimit := (hr.make C [] [(fld, u)]).depth
    have bk : ∀ b o, X.base.get? b = some o → hp.get? b = some o := I1.bk
    have lim : hp.NoLimit := I1.nolimit
    refine wpAny_call (kw_call F.excBase_ValueError (fun Y => PySem.HandSPX.refsVE_contains Y bm hbm) (I1.kIn _ _ hC) (PySem.W.looks_findIn I1.kIn D.iC) (fun self => PySem.W.bind_fn I1.kIn self D.tC) ?_)
    refine init_field (s := ⟨(hp.push (PySem.W.kdv_tup [])).push (excO C hp.objs.size), g, dr, tk, os⟩) T (I1.kIn.keeps kk) (lim.keeps kk) ((I1.mod.glob.keeps bk).keeps kk) ((hmb.keeps bk).keeps kk) hbb newOne
      (fresh_out I1.kIn (Nat.le_succ _)) room (b _ _ _ (I1.kIn.keeps kk)) ?_
    intro h' tk' dx t1 J
    have old : ∀ b o, hp.get? b = some o → h'.get? b = some o := fun b o e => J.keep b o (Nat.ne_of_lt (Nat.lt_succ_of_lt (Heap.lt_size e))) (kk b o e)
    have zs : hp.objs.size ≤ dx := by
      have q := J.big
      simp only [Heap.size_push] at q
      omega
    have ga : hp.objs.size ≤ hp.objs.size + 1 := Nat.le_succ _
    have fa := I1.hok.fresh ga
    have fdn := I1.hok.fresh zs
    have L := laid2 (t' := tk') (oa := exo (hp.objs.size + 1) C (some dx)) (od := exd dx [(fld, v)]) I1 old ga zs J.apart (exo_ok J.obj)
      (exd_ok J.ns fun g => relO_put (f := fld) (fs := []) (mA := fun _ => none) rv (fun g => True.intro) g)
    exact ⟨rfl, ⟨.ref (hp.objs.size + 1), _, L, rfl, q _ dx fa fdn J.apart⟩⟩
end
end L2.Hx

/-! #### Hx10 -/
set_option Elab.async false
set_option linter.all false
set_option maxRecDepth 100000
set_option maxHeartbeats 4000000
/-! Hx10: own exceptions without a field, made without arguments. -/
namespace L2.Hx
open PySem PySem.Spec PyProof.Rows PySem.W PySem.Calls
open PySem.HandSPX (excO refsVE)

structure BareC (prog : Program) (K : Frag) (C f cc cda : Addr) (qual : Str) (params : Arguments) (body : List Stmt) (scope : Scope) (fd : FuncData) : Prop where
  toSup : SupC prog K C f cc cda qual params body scope fd
  sc : SupScope prog params scope
  shape : ∃ (p0 p1 p2 p3 p4 p5 : Pos) (kd : Nat) (msg : Str), body = [.Expr (supE p0 p1 p2 p3 p4 kd msg) p5] ∧ PlainCall p0 p1 p2 p3 p4 kd msg

section
variable {prog : Program} {w : World} {A : Around} {E : Value → Shared → Prop} {R : Result → Shared → Prop} {K : Frag} {C f cc cda : Addr} {qual : Str} {params : Arguments}
  {body : List Stmt} {scope : Scope} {fd : FuncData} {mg mb : Str → Option Value} {x t0 : Addr}
theorem init_bare (T : BareC prog K C f cc cda qual params body scope fd) {s : Shared} {args : Args} (X : K.In s.heap) (hlim : s.heap.NoLimit)
    (hns : s.heap.Ns mainGlobals mg) (hmb : s.heap.Ns builtinsNs mb) (hbb : ∀ x : Str, x ≠ "__name__" → mb x = bootBuiltins x)
    (hx : s.heap.get? x = some (excO C t0)) (hnx : K.lookup x = none) (hroom : A.depth < recursionLimit) (hbind : BindsTo s fd args [("self", .ref x)])
    (hq : ∀ h' tk t1, (∀ b o, b ≠ x → s.heap.get? b = some o → h'.get? b = some o) → h'.get? x = some (excO C t1) → R (.ok (.ret .none)) { s with heap := h', toks := tk }) :
    codeAny (model prog w) A (.call (.ref f) args) R s := by
  have TS := T.toSup
  obtain ⟨oc, od, dV, kV, doc, pm, an, ct, osl, efd, hf⟩ := TS.fn
  obtain ⟨p0, p1, p2, p3, p4, p5, kd, msg, eb, plain⟩ := T.shape
  obtain ⟨ar, har, hself⟩ := T.sc.first
  subst efd
  refine ks_codeAny_call_defAt (fd := ksFn "__init__" qual params body scope dV kV doc pm an (.ref cda) ct cc) (body := body) hroom (X _ _ hf) rfl hlim (codeRec_of X TS.codeIs) rfl hbind T.sc.noCell (fun y hy => ?_) (fun h0 hn k0' => ?_) T.sc.co T.sc.gen T.sc.kind
  · simp only [List.mem_cons, List.not_mem_nil, or_false] at hy
    rw [hy]
    exact T.sc.hself
  rw [eb]
  have v1 : (fun y => List.lookup y ([("self", Value.ref x)] : List (Str × Value)).reverse) ar.arg = some (.ref x) := by
    show List.lookup ar.arg [(("self" : Str), Value.ref x)] = _
    rw [← hself]
    simp [List.lookup]
  obtain ⟨pl, he⟩ := plain (ksEnv qual scope s.heap.objs.size f (.ref cda) cc)
  refine ks_wpAt_execs_cons ?_
  refine super_line (m := fun y => List.lookup y ([("self", Value.ref x)] : List (Str × Value)).reverse) TS (X.keeps k0') (hns.keeps k0') (hmb.keeps k0') hbb (k0' _ _ hx) hn v1 har T.sc.hks T.sc.hkc (by rw [hself]; exact T.sc.hself) T.sc.kind T.sc.top he (fun h1 tk1 t1 kk hx1 => ?_)
  refine PySem.wpAt_of_wpAny ?_
  refine wpAny_execs_nil ?_
  exact hq h1 tk1 t1 (fun b o hb e => kk b o hb (k0' b o e)) hx1
end

/-- a class whose __init__ takes self alone -/
structure NCls (prog : Program) (K : Frag) (mg : Str → Option Value) (x : Str) (C : Addr) : Prop where
  is : ∃ (f cc cda : Addr) (qual : Str) (params : Arguments) (body : List Stmt) (scope : Scope) (fd : FuncData),
    BareC prog K C f cc cda qual params body scope fd ∧ Calls K C f ∧ Binds K fd ["self"] []
  m : mg x = some (.ref C)
  ex : ExcC K C
/-- C() -/
def tMkN (C : Addr) : TE := fun _ H Q => ∀ a, H a = none → Q (.ref a) (upd H a (exo a C none))
section
variable {X : Cx} {x : Str} {C : Addr} {k : Nat} {p pos : Pos}
theorem pe_mkN (c : NCls X.prog X.K X.mg x C) (hr : Room (k + 1) X.A) (hg : Gl X x) (hdb : (x == ("__debug__" : Str)) = false := by decide) :
    PE X (.Call (.Name x p) [] [] pos) (tMkN C) := by
  obtain ⟨f, cc, cda, qual, params, body, scope, fd, T, D, b⟩ := c.is
  obtain ⟨nm, q, N, bs, bm, sn, sub, ab, col, dd, k0, k1, k2, k3, k5, hC, hbm⟩ := T.toSup.cls
  constructor
  intro pins s σ H Q I h
  refine wpAny_Call_Name_kw (ld_glob I hg c.m ?_ hdb)
  refine PySem.W.callWith_K0 I.kIn D.kC ?_
  show wpAny _ _ (call (.ref C) []) _ _ _
  obtain ⟨mb, hmb, hbb⟩ := I.mod.blt
  obtain ⟨hp, g, dr, tk, os⟩ := s
  have kk : ∀ b o, hp.get? b = some o → ((hp.push (PySem.W.kdv_tup [])).push (excO C hp.objs.size)).get? b = some o := fun b o e => Heap.get?_push_of_some _ (Heap.get?_push_of_some _ e)
  have newOne : ((hp.push (PySem.W.kdv_tup [])).push (excO C hp.objs.size)).get? (hp.objs.size + 1) = some (excO C hp.objs.size) := by heap_get
  have bk : ∀ b o, X.base.get? b = some o → hp.get? b = some o := I.bk
  have lim : hp.NoLimit := I.nolimit
  refine wpAny_call (PySem.HandSPX.call_own F.excBase_ValueError (fun Y => PySem.HandSPX.refsVE_contains Y bm hbm) (I.kIn _ _ hC) (looks_findIn I.kIn D.iC) (fun self => bind_fn I.kIn self D.tC) (Nat.zero_le _) ?_)
  refine init_bare (s := ⟨(hp.push (PySem.W.kdv_tup [])).push (excO C hp.objs.size), g, dr, tk, os⟩) T (I.kIn.keeps kk) (lim.keeps kk) ((I.mod.glob.keeps bk).keeps kk) ((hmb.keeps bk).keeps kk) hbb newOne
    (fresh_out I.kIn (Nat.le_succ _)) (hr.make C [] []).depth (b _ [.ref (hp.objs.size + 1)] (I.kIn.keeps kk) rfl) ?_
  intro h' tk' t1 kx hx
  have old : ∀ b o, hp.get? b = some o → h'.get? b = some o := fun b o e => kx b o (Nat.ne_of_lt (Nat.lt_succ_of_lt (Heap.lt_size e))) (kk b o e)
  have ga : hp.objs.size ≤ hp.objs.size + 1 := Nat.le_succ _
  exact ⟨rfl, ⟨.ref (hp.objs.size + 1), _, I.laid (t' := tk') (a := hp.objs.size + 1) (o := exo (hp.objs.size + 1) C none) old ga (exo_ok hx), rfl, h _ (I.hok.fresh ga)⟩⟩
/-- isinstance(e, c), e without a dict -/
def rIsN (K : Frag) : List V → Hp → VK → Prop := fun xs H Q => ∃ (a D : Addr) (c : V) (cv : Value) (b : Bool), xs = [.ref a, c] ∧ H a = some (exo a D none) ∧
  ExcC K D ∧ (∀ u, RelV c u → u = cv) ∧ kitOne K (.ref D) cv = some b ∧ Q (.bl b) H
theorem call_isN : CallR X (.builtin "isinstance") (rIsN X.K) := by
  intro pins s σ H xs us Q I r h
  obtain ⟨a, D, c, cv, b, rfl, ea, Ce, hcv, e, q⟩ := h
  cases r with
  | cons rx rr =>
    cases rr with
    | cons rt rr =>
      cases rr
      cases rx
      have ec := hcv _ rt
      subst ec
      obtain ⟨t1, ho⟩ := exo_at I.hok ea
      have J : InstAt s.heap a { cls := .ref D, dict := none, data := .fields #[.ref t1, .none, .none, .none, .bool false, .none] } D none := ⟨ho, rfl, rfl, trivial⟩
      exact kia_one (kitx_exc Ce) I.kIn J e (fun z => nomatch z) fun tk => ⟨.bl b, H, I.kept (t' := tk) fun _ _ z => z, rfl, q⟩

/-! ### an own class without an __init__ -/
structure PCls (K : Frag) (mg : Str → Option Value) (x : Str) (C : Addr) : Prop where
  over : excIn K C [.type "ValueError", .type "Exception", .type "BaseException", .type "object"] "ValueError.__new__" = true
  m : mg x = some (.ref C)
  kp : keepIn K (.ref C) = true
  ex : ExcC K C
theorem pe_mkP (c : PCls X.K X.mg x C) (hg : Gl X x) (hdb : (x == ("__debug__" : Str)) = false := by decide) :
    PE X (.Call (.Name x p) [] [] pos) (tMkN C) := by
  constructor
  intro pins s σ H Q I h
  refine wpAny_Call_Name_kw (ld_glob I hg c.m ?_ hdb)
  refine PySem.W.callWith_K0 I.kIn c.kp ?_
  show wpAny _ _ (call (.ref C) []) _ _ _
  obtain ⟨bm, N, nm, qn, bs, hdct, sn, sub, ab, col, dd, k0, k1, k2, k3, k5, mN, hC, hN, hni, T⟩ := exc_obj I.kIn c.over
  refine wpAny_call_exc_subT F.excBase_ValueError T hC hN hni (fun h' e hm => ?_) (Nat.zero_le _)
  obtain ⟨t1, ht, _⟩ := hm.there
  have hn : H e = none := I.hok.gone hm.new
  exact ⟨.ref e, upd H e (exo e C none), I.laidN hm.keeps hm.new hn (exo_ok ht), rfl, h e hn⟩
end
end L2.Hx

/-! #### Hx11 -/
set_option Elab.async false
set_option linter.all false
set_option maxRecDepth 100000
set_option maxHeartbeats 4000000
/-! Hx11: comprehensions, slices, sums of lists, data, isinstance: what their readings come to. -/
namespace L2.Hx
open PySem PySem.Spec PyProof.Rows

/-- the iterator walks the values xs, in every heap that keeps what H tracks -/
structure Seqs (J : It) (H : Hp) (xs : List V) : Prop where
  go : ∀ H' i x, Same H H' → xs[i]? = some x → J.go i H' ∧ ∀ y H'', J.yld i H' y H'' → H'' = H' ∧ y = x
  stop : ∀ H', Same H H' → J.stop xs.length H'
def EvI (wi : TI) (σ : St) (H : Hp) (xs : List V) : Prop := ∀ H1, Same H H1 → ∀ R : It → Hp → Prop, (∀ J H2, Same H1 H2 → Seqs J H2 xs → R J H2) → wi σ H1 R
theorem upd_id {H : Hp} {a : Addr} {o : HO} (h : H a = some o) : upd H a o = H := by
  funext b
  unfold upd
  split
  · rename_i e
    rw [e, h]
  · rfl
theorem same_upd {H H' : Hp} {a : Addr} {o : HO} (s : ∀ b u, b ≠ a → H b = some u → H' b = some u) : Same (upd H a o) (upd H' a o) := fun b u e => by
  by_cases hb : b = a
  · rw [hb, upd_same] at e ⊢
    exact e
  · rw [upd_ne hb] at e ⊢
    exact s b u hb e

section
variable {K : PySem.W.Frag} {σ : St} {H : Hp} {te tl : TE} {tt : TT} {ta : TA}
theorem evI_list {xs : List V} (h : Ev tl σ H (fun x H' => ∃ a, x = .ref a ∧ SqL K H' a xs)) : EvI (iList K tl) σ H xs := fun H1 s R q => h H1 s _ fun x H2 s2 p => by
  obtain ⟨a, rfl, hs⟩ := p
  refine ⟨a, rfl, ⟨_, hs⟩, q _ H2 s2 ⟨fun H' i x s3 hx => ⟨⟨xs, x, s3.seq hs, hx⟩, fun y H'' hy => ⟨hy.1, ?_⟩⟩, fun H' s3 => ⟨xs, s3.seq hs, Nat.le_refl _⟩⟩⟩
  have z := hy.2 xs (s3.seq hs)
  rw [hx] at z
  exact (Option.some.inj z).symm
theorem evI_range {n : Nat} (h : EvA ta σ H (fun vs _ => vs = [.int (n : Int)])) (hn : n < 2 ^ 62) : EvI (iRng1 ta) σ H ((List.range n).map fun (k : Nat) => V.int (k : Int)) := fun H1 s R q => h H1 s _ fun vs H2 s2 p => by
  subst p
  refine ⟨(n : Int), rfl, by omega, by omega, q _ H2 s2 ⟨fun H' i x s3 hx => ?_, fun H' s3 => ?_⟩⟩
  · rw [List.getElem?_map] at hx
    by_cases hi : i < n
    · rw [List.getElem?_range hi] at hx
      cases hx
      refine ⟨by show i < ((n : Int)).toNat; omega, fun y H'' hy => ⟨hy.1, ?_⟩⟩
      rw [hy.2]
      simp
    · rw [List.getElem?_eq_none (by simpa using hi)] at hx
      cases hx
  · show ((n : Int)).toNat ≤ _
    rw [List.length_map, List.length_range]
    omega

/-- [elt for target in iter if test]: a new list; of its items, those with keep, Pe is true -/
theorem ev_lc {wi : TI} {g : TG} {vs : List Nat} {xs : List V} {keep : Nat → Bool} {Pe : Nat → VP} (si : Nat → St) (hi : EvI wi σ H xs) (hz : xs.length ≤ 1000000)
    (hg : ∀ i x, xs[i]? = some x → ∀ H1, Same H H1 → ∀ Q : St → Hp → Prop, Q (si i) H1 → g x (wipe σ vs) H1 Q) (hw : ∀ i, i < xs.length → wipe (si i) vs = wipe σ vs)
    (ht : ∀ i, i < xs.length → ∀ H1, Same H H1 → EvT tt (si i) H1 (fun b => b = keep i))
    (he : ∀ i, i < xs.length → keep i = true → ∀ H1 D acc, Same H H1 → H1 D = some (.lst acc) → H D = none → Ev te (si i) H1 (fun y H2 => ∀ o, Pe i y (upd H2 D o)))
    (hm : ∀ i, Mono (Pe i)) :
    Ev (tLc wi g tt te vs) σ H (fun v H' => ∃ l ys, v = .ref l ∧ H' l = some (.lst ys) ∧ H l = none ∧ Paired (fun i y => Pe i y H') ((List.range xs.length).filter keep) ys) := by
  intro H1 s Q q
  refine hi H1 s _ fun J H2 s2 sq => fun D hD => ?_
  have hD0 : H D = none := (s.trans s2).free hD
  let Pv : Nat → Hp → Prop := fun i Hs => ∃ acc, Hs D = some (.lst acc) ∧ acc.length ≤ i ∧ Same H2 Hs ∧ Paired (fun j y => ∀ o, Pe j y (upd Hs D o)) ((List.range i).filter keep) acc
  have start : Pv 0 (upd H2 D (.lst [])) := ⟨[], upd_same, Nat.zero_le _, Same.grow (Same.refl _) hD, .nil⟩
  refine ⟨fun i m Hs => m = xs.length - i ∧ i ≤ xs.length ∧ Pv i Hs, ⟨xs.length, by simp, Nat.zero_le _, start⟩, ?_⟩
  rintro i m Hs ⟨rfl, hle, acc, hacc, hlen, sm, pr⟩
  by_cases hlt : i < xs.length
  · have hx : xs[i]? = some xs[i] := List.getElem?_eq_getElem hlt
    obtain ⟨g1, g2⟩ := sq.go Hs i xs[i] sm hx
    refine .inr ⟨g1, Pv (i + 1), fun H' p => ⟨xs.length - (i + 1), by omega, rfl, hlt, p⟩, fun x H' y => ?_⟩
    obtain ⟨rfl, rfl⟩ := g2 x H' y
    have base : Same H H' := (s.trans s2).trans sm
    refine hg i xs[i] hx H' base _ ⟨hw i hlt, ?_⟩
    refine ht i hlt H' base H' (Same.refl _) _ fun b H3 s3 eb => ?_
    subst eb
    have fl : (List.range (i + 1)).filter keep = (List.range i).filter keep ++ (if keep i = true then [i] else []) := by
      rw [List.range_succ, List.filter_append]
      congr 1
      by_cases hk : keep i = true
      · simp [hk]
      · simp [hk]
    have later : ∀ {H4 : Hp}, Same H' H4 → Paired (fun j y => ∀ o, Pe j y (upd H4 D o)) ((List.range i).filter keep) acc := fun {H4} s4 =>
      Paired.mapP pr fun j y p o => hm j _ _ _ (same_upd fun b u _ e => s4 b u e) (p o)
    by_cases hk : keep i = true
    · rw [if_pos hk]
      refine he i hlt hk H3 D acc (base.trans s3) (s3 D _ hacc) hD0 H3 (Same.refl _) _ fun y H4 s4 py => ?_
      have hD4 : H4 D = some (.lst acc) := s4 D _ (s3 D _ hacc)
      refine ⟨acc, hD4, ?_, acc ++ [y], upd_same, ?_, ?_, ?_⟩
      · exact Nat.lt_of_le_of_lt (Nat.le_trans hlen (Nat.le_of_lt (Nat.lt_of_lt_of_le hlt hz))) (by rw [sizeLine_eq]; omega)
      · rw [List.length_append, List.length_singleton]
        omega
      · intro b u e
        have : b ≠ D := ne_of_none e hD
        rw [upd_ne this]
        exact s4 b u (s3 b u (sm b u e))
      · rw [fl, if_pos hk]
        refine Paired.snoc (Paired.mapP (later (s3.trans s4)) fun j z p o => ?_) fun o => ?_
        · rw [upd_upd]
          exact p o
        · rw [upd_upd]
          exact py o
    · rw [if_neg hk]
      refine ⟨acc, s3 D _ hacc, Nat.le_succ_of_le hlen, sm.trans s3, ?_⟩
      rw [fl, if_neg hk, List.append_nil]
      exact later s3
  · have e : i = xs.length := by omega
    subst e
    refine .inl ⟨sq.stop Hs sm, q _ Hs (s2.trans sm) ⟨D, acc, rfl, hacc, hD0, Paired.mapP pr fun j y p => ?_⟩⟩
    have z := p (.lst acc)
    rw [upd_id hacc] at z
    exact z
end
end L2.Hx

/-! #### Hx12 -/
set_option Elab.async false
set_option linter.all false
set_option maxRecDepth 100000
set_option maxHeartbeats 4000000
namespace L2.Hx
open PySem PySem.Spec PyProof.Rows

/-- isinstance: of values, of exceptions that hold a field, of those that hold none -/
def rIsA (K : PySem.W.Frag) : List V → Hp → VK → Prop := fun xs H Q => rIsi K xs H Q ∨ rIsX K xs H Q ∨ rIsN K xs H Q
theorem cIsA {X : Cx} : CallR X (.builtin "isinstance") (rIsA X.K) := CallR.or call_isi (CallR.or call_isX call_isN)
def rAddA (K : PySem.W.Frag) : R2 := fun x y H Q => rAddI x y H Q ∨ rCat x y H Q ∨ rCatA K x y H Q
theorem oAddA {X : Cx} : OpR X (binaryOp .Add) (rAddA X.K) := oAdd
def rMulA : R2 := fun x y H Q => rI CMulW (fun i j => .int (i * j)) x y H Q ∨ rRep x y H Q
theorem oMulA {X : Cx} : OpR X (binaryOp .Mult) rMulA := oMul
def rEqA (K : PySem.W.Frag) : R2 := fun x y H Q => rEq x y H Q ∨ rEqD K x y H Q
def rNeA (K : PySem.W.Frag) : R2 := fun x y H Q => rNe x y H Q ∨ rNeD K x y H Q
theorem oEqA {X : Cx} (hu : X.A.units + 64 < cLine) : OpR X (compareOp .Eq) (rEqA X.K) := oEq hu
theorem oNeA {X : Cx} (hu : X.A.units + 64 < cLine) : OpR X (compareOp .NotEq) (rNeA X.K) := oNe hu
def rSlc (K : PySem.W.Frag) : V → Option Int → Option Int → Hp → VK → Prop := fun x lo hi H Q => rSlL K x lo hi H Q ∨ rSlA K x lo hi H Q
theorem slAA {X : Cx} : SlR X (rSlc X.K) := slA

/-- an exception of the class at C stands at e, with a field or without -/
def ErrIs (H : Hp) (e C : Addr) : Prop := (∃ d fs, H e = some (exo e C (some d)) ∧ H d = some (exd d fs)) ∨ H e = some (exo e C none)
theorem ErrIs.grow {H H' : Hp} {e C : Addr} (s : Same H H') (h : ErrIs H e C) : ErrIs H' e C := by
  rcases h with ⟨d, fs, h1, h2⟩ | h
  · exact .inl ⟨d, fs, s _ _ h1, s _ _ h2⟩
  · exact .inr (s _ _ h)
/-- .. that holds v in its field fld -/
def ErrAt (H : Hp) (e C : Addr) (fld : Str) (v : V) : Prop := ∃ d, H e = some (exo e C (some d)) ∧ H d = some (exd d [(fld, v)])
theorem ErrAt.grow {H H' : Hp} {e C : Addr} {fld : Str} {v : V} (s : Same H H') (h : ErrAt H e C fld v) : ErrAt H' e C fld v := by
  obtain ⟨d, h1, h2⟩ := h
  exact ⟨d, s _ _ h1, s _ _ h2⟩
theorem ErrAt.is {H : Hp} {e C : Addr} {fld : Str} {v : V} (h : ErrAt H e C fld v) : ErrIs H e C := by
  obtain ⟨d, h1, h2⟩ := h
  exact .inl ⟨d, _, h1, h2⟩
theorem exo_lst {e C : Addr} {d : Option Addr} {xs : List V} : exo e C d ≠ .lst xs := fun z => by
  have z' : HO.ext _ = HO.lst xs := z
  cases z'
theorem exd_lst {e : Addr} {fs : List (Str × V)} {xs : List V} : exd e fs ≠ .lst xs := fun z => by
  have z' : HO.ext _ = HO.lst xs := z
  cases z'
/-- a new list -/
def NewL (H : Hp) (xs : List V) : VP := fun x H' => ∃ a, x = .ref a ∧ H' a = some (.lst xs) ∧ H a = none
def IsL (xs : List V) : VP := fun x H' => ∃ a, x = .ref a ∧ H' a = some (.lst xs)
theorem mono_isL {xs : List V} : Mono (IsL xs) := fun _ _ _ s ⟨a, e, h⟩ => ⟨a, e, s _ _ h⟩
theorem mono_newL {H : Hp} {xs : List V} : Mono (NewL H xs) := fun _ _ _ s ⟨a, e, h, n⟩ => ⟨a, e, s _ _ h, n⟩

section
variable {K : PySem.W.Frag} {σ : St} {H : Hp} {te ta tb tc : TE} {t : TA} {v x y c : V}
theorem ev_new {xs : List V} (h : Ev te σ H (NewL H xs)) : Ev te σ H (IsL xs) := h.weak fun _ _ _ ⟨a, e, q, _⟩ => ⟨a, e, q⟩
theorem evA_k0 : EvA tNil σ H (fun vs _ => vs = []) := evA_nil
theorem evA_k {ws : List V} (h : Ev te σ H (is v)) (ht : EvA t σ H (fun vs _ => vs = ws)) : EvA (tCons te t) σ H (fun vs _ => vs = v :: ws) :=
  (evA_cons h ht mono_is).weak fun vs H' _ ⟨x, r, e, p, q⟩ => by
    have p' : x = v := p
    rw [e, p', q]
theorem ev_lstK {ws : List V} (h : EvA t σ H (fun vs _ => vs = ws)) (hz : ws.length ≤ 1000) : Ev (tLst t) σ H (NewL H ws) :=
  (ev_lst h (fun vs _ e => by rw [e]; exact Nat.le_trans hz (by rw [sizeLine_eq]; omega)) (fun vs _ _ _ e => e)).weak fun x H' _ ⟨a, vs, e, h1, h2, h3⟩ => by
    rw [h3] at h1
    exact ⟨a, e, h1, h2⟩
theorem ev_tupK {ws : List V} (h : EvA t σ H (fun vs _ => vs = ws)) (hz : ws.length ≤ 1000) : Ev (tTup t) σ H (fun x H' => ∃ a, x = .ref a ∧ H' a = some (.tup ws) ∧ H a = none) :=
  (ev_tup h (fun vs _ e => by rw [e]; exact Nat.le_trans hz (by rw [sizeLine_eq]; omega)) (fun vs _ _ _ e => e)).weak fun x H' _ ⟨a, vs, e, h1, h2, h3⟩ => by
    rw [h3] at h1
    exact ⟨a, e, h1, h2⟩
theorem ev_catL {xs ys : List V} (ha : Ev ta σ H (IsL xs)) (hb : Ev tb σ H (IsL ys)) (hz : xs.length + ys.length ≤ 100000) : Ev (tOp (rAddA K) ta tb) σ H (NewL H (xs ++ ys)) :=
  ev_op ha hb mono_isL fun x y H' s ⟨a, ea, h1⟩ ⟨b, eb, h2⟩ Q q => by
    subst ea
    subst eb
    refine .inr (.inl ⟨a, b, xs, ys, rfl, rfl, h1, h2, Nat.le_trans hz (by rw [sizeLine_eq]; omega), fun p hp => ?_⟩)
    exact q _ _ (Same.grow (Same.refl _) hp) ⟨p, rfl, upd_same, s.free hp⟩
theorem ev_addI {i j : Int} (ha : Ev ta σ H (is (.int i))) (hb : Ev tb σ H (is (.int j))) : Ev (tOp (rAddA K) ta tb) σ H (is (.int (i + j))) :=
  ev_op ha hb mono_is fun x y H' s e1 e2 Q q => by
    obtain rfl : x = .int i := e1
    obtain rfl : y = .int j := e2
    exact .inl ⟨i, j, rfl, rfl, q _ _ (Same.refl _) rfl⟩
theorem ev_mulI {i j : Int} (hc : CMulW i j) (ha : Ev ta σ H (is (.int i))) (hb : Ev tb σ H (is (.int j))) : Ev (tOp rMulA ta tb) σ H (is (.int (i * j))) :=
  ev_op ha hb mono_is fun x y H' s e1 e2 Q q => by
    obtain rfl : x = .int i := e1
    obtain rfl : y = .int j := e2
    exact .inl ⟨i, j, rfl, rfl, hc, q _ _ (Same.refl _) rfl⟩
theorem ev_repL {xs : List V} {n : Nat} (ha : Ev ta σ H (IsL xs)) (hb : Ev tb σ H (is (.int (n : Int)))) (hn : n ≤ 10000) (hz : xs.length * n ≤ 100000) :
    Ev (tOp rMulA ta tb) σ H (NewL H (List.replicate n xs).flatten) :=
  ev_op ha hb mono_isL fun x y H' s ⟨a, ea, h1⟩ e2 Q q => by
    subst ea
    obtain rfl : y = .int (n : Int) := e2
    refine .inr ⟨a, n, xs, rfl, rfl, h1, by omega, by omega, by rw [Int.toNat_natCast, sizeLine_eq]; omega, fun p hp => ?_⟩
    rw [Int.toNat_natCast]
    exact q _ _ (Same.grow (Same.refl _) hp) ⟨p, rfl, upd_same, s.free hp⟩
theorem ev_rI0 {g : Int → Int → V} {i j : Int} (ha : Ev ta σ H (is (.int i))) (hb : Ev tb σ H (is (.int j))) : Ev (tOp (rI0 g) ta tb) σ H (is (g i j)) :=
  ev_op ha hb mono_is fun x y H' s e1 e2 Q q => by
    obtain rfl : x = .int i := e1
    obtain rfl : y = .int j := e2
    exact ⟨i, j, rfl, rfl, q _ _ (Same.refl _) rfl⟩
theorem ev_rI {C : Int → Int → Prop} {g : Int → Int → V} {i j : Int} (hc : C i j) (ha : Ev ta σ H (is (.int i))) (hb : Ev tb σ H (is (.int j))) : Ev (tOp (rI C g) ta tb) σ H (is (g i j)) :=
  ev_op ha hb mono_is fun x y H' s e1 e2 Q q => by
    obtain rfl : x = .int i := e1
    obtain rfl : y = .int j := e2
    exact ⟨i, j, rfl, rfl, hc, q _ _ (Same.refl _) rfl⟩
theorem ev_ixL {xs : List V} {i : Int} (ha : Ev ta σ H (fun x H' => ∃ a, x = .ref a ∧ SqL K H' a xs)) (hb : Ev tb σ H (is (.int i))) (hi : atI xs i = some v) : Ev (tOp (rIx K) ta tb) σ H (is v) :=
  ev_op ha hb (fun _ _ _ s ⟨a, e, h⟩ => ⟨a, e, s.seq h⟩) fun x y H' s ⟨a, ea, h1⟩ e2 Q q => by
    subst ea
    obtain rfl : y = .int i := e2
    exact .inl ⟨a, xs, i, v, rfl, rfl, h1, hi, q _ _ (Same.refl _) rfl⟩
theorem ev_ixN {xs : List V} {i : Int} (ha : Ev ta σ H (IsL xs)) (hb : Ev tb σ H (is (.int i))) (hi : atI xs i = some v) : Ev (tOp (rIx K) ta tb) σ H (is v) :=
  ev_ixL (ha.weak fun _ _ _ ⟨a, e, h⟩ => ⟨a, e, SqL.of h⟩) hb hi
theorem ev_slL {xs : List V} {tl th : TO} {lo hi : Option Int} (ha : Ev ta σ H (fun x H' => ∃ a, x = .ref a ∧ SqL K H' a xs)) (hl : ∀ H1, Same H H1 → ∀ Q : Option Int → Hp → Prop, Q lo H1 → tl σ H1 Q)
    (hh : ∀ H1, Same H H1 → ∀ Q : Option Int → Hp → Prop, Q hi H1 → th σ H1 Q) : Ev (tSl (rSlc K) ta tl th) σ H (NewL H (cutV xs lo hi)) := fun H1 s Q q => ha H1 s _ fun x H2 s2 p => by
  obtain ⟨a, rfl, h1⟩ := p
  refine hl H2 (s.trans s2) _ (hh H2 (s.trans s2) _ (.inl ⟨a, xs, rfl, h1, fun p hp => ?_⟩))
  exact q _ _ (Same.grow s2 hp) ⟨p, rfl, upd_same, (s.trans s2).free hp⟩
/-- isinstance of an exception -/
theorem ev_isE {k : Nat} {e C : Addr} {cv : Value} {b : Bool} (hv : σ[k]? = some (some (.ref e))) (he : ErrIs H e C) (ex : ExcC K C) (hc : Ev tc σ H (is c)) (hcv : ∀ u, RelV c u → u = cv)
    (hk : PySem.W.kitOne K (.ref C) cv = some b) : Ev (tCB (rIsA K) (tCons (tVar k) (tCons tc tNil))) σ H (is (.bl b)) :=
  ev_cb (evA_k (ev_var hv) (evA_k hc evA_nil)) fun vs H' s e1 Q q => by
    subst e1
    rcases he.grow s with ⟨d, fs, h1, h2⟩ | h1
    · exact .inr (.inl ⟨e, C, d, fs, c, cv, b, rfl, h1, h2, ex, hcv, hk, q _ _ (Same.refl _) rfl⟩)
    · exact .inr (.inr ⟨e, C, c, cv, b, rfl, h1, ex, hcv, hk, q _ _ (Same.refl _) rfl⟩)
/-- a new exception with its field -/
theorem ev_mkX {C : Addr} {fld : Str} (h : Ev te σ H (is v)) : Ev (tMkF C fld [] (tCons te tNil)) σ H (fun x H' => ∃ a, x = .ref a ∧ ErrAt H' a C fld v ∧ H a = none) := fun H1 s Q q => h H1 s _ fun x H2 s2 p => by
  obtain rfl : x = v := p
  refine ⟨x, rfl, fun a d na nd hda => ?_⟩
  have nd' : H2 d = none := nd
  have g : Same H2 (upd (upd H2 d (exd d [(fld, x)])) a (exo a C (some d))) := Same.grow (Same.grow (Same.refl _) nd) (by rw [upd_ne (Ne.symm hda)]; exact na)
  exact q _ _ (s2.trans g) ⟨a, rfl, ⟨d, upd_same, by rw [upd_ne hda, upd_same]⟩, (s.trans s2).free na⟩
theorem ev_mkX0 {C : Addr} {fld : Str} : Ev (tMkF C fld [.non] tNil) σ H (fun x H' => ∃ a, x = .ref a ∧ ErrAt H' a C fld .non ∧ H a = none) := fun H1 s Q q => by
  refine ⟨.non, rfl, fun a d na nd hda => ?_⟩
  have g : Same H1 (upd (upd H1 d (exd d [(fld, V.non)])) a (exo a C (some d))) := Same.grow (Same.grow (Same.refl _) nd) (by rw [upd_ne (Ne.symm hda)]; exact na)
  exact q _ _ g ⟨a, rfl, ⟨d, upd_same, by rw [upd_ne hda, upd_same]⟩, s.free na⟩
theorem ev_mkN {C : Addr} : Ev (tMkN C) σ H (fun x H' => ∃ a, x = .ref a ∧ H' a = some (exo a C none)) := fun H1 s Q q => fun a na => q _ _ (Same.grow (Same.refl _) na) ⟨a, rfl, upd_same⟩
theorem ev_fldX {fld : Str} (h : Ev te σ H (fun x H' => ∃ a C, x = .ref a ∧ ErrAt H' a C fld v ∧ FldC K C fld)) : Ev (tFldX K fld te) σ H (is v) := fun H1 s Q q => h H1 s _ fun x H2 s2 p => by
  obtain ⟨a, C, rfl, ⟨d, h1, h2⟩, hf⟩ := p
  exact ⟨a, C, d, _, v, rfl, h1, h2, hf, by simp [List.lookup], q _ _ s2 rfl⟩
end
end L2.Hx

/-! #### Hx13 -/
set_option Elab.async false
set_option linter.all false
set_option maxRecDepth 100000
set_option maxHeartbeats 4000000
/-! Hx13: the rules with the written part K named (so that a reading within a comprehension says nothing of its context). -/
namespace L2.Hx
open PySem PySem.Spec PyProof.Rows
section
variable {X : Cx} (K : PySem.W.Frag) {a b e : Expr} {ta te tl : TE} {fld : Str} {pos : Pos}
theorem ixK (hK : X.K = K := by rfl) : IxR X (rIx K) := by
  subst hK
  exact ixA
theorem slK (hK : X.K = K := by rfl) : SlR X (rSlc K) := by
  subst hK
  exact slAA
theorem cIsK (hK : X.K = K := by rfl) : CallR X (.builtin "isinstance") (rIsA K) := by
  subst hK
  exact cIsA
theorem oAddK (hK : X.K = K := by rfl) : OpR X (binaryOp .Add) (rAddA K) := by
  subst hK
  exact oAddA
theorem oEqK (hu : X.A.units + 64 < cLine) (hK : X.K = K := by rfl) : OpR X (compareOp .Eq) (rEqA K) := by
  subst hK
  exact oEqA hu
theorem oNeK (hu : X.A.units + 64 < cLine) (hK : X.K = K := by rfl) : OpR X (compareOp .NotEq) (rNeA K) := by
  subst hK
  exact oNeA hu
theorem cReprK (gd : X.A.guards = some []) (hu : X.A.units + 64 < cLine) (hK : X.K = K := by rfl) : CallR X (.builtin "repr") (rRepr K) := by
  subst hK
  exact call_repr gd hu
def rLen (K : PySem.W.Frag) : List V → Hp → VK → Prop := fun xs H Q => ∃ x n, xs = [x] ∧ LenV K x H n ∧ Q (.int n) H
theorem cLenK (hK : X.K = K := by rfl) : CallR X (.builtin "len") (rLen K) := by
  subst hK
  exact call_len
def rListOf (K : PySem.W.Frag) : List V → Hp → VK → Prop := fun xs H Q => ∃ p ys, xs = [.ref p] ∧ (SqL K H p ys ∨ SqT K H p ys) ∧ ∀ l, H l = none → Q (.ref l) (upd H l (.lst ys))
theorem cListK (hK : X.K = K := by rfl) : CallR X (.type "list") (rListOf K) := by
  subst hK
  exact call_list_of
def tTru (K : PySem.W.Frag) (ta : TE) : TT := fun σ H Q => ta σ H fun x H' => ∃ k, TruV K x H' k ∧ Q k H'
theorem ptK (ha : PE X a ta) (hK : X.K = K := by rfl) (he : ∀ whole, isTrue a X.env whole = (do let v ← whole; standAt a.pos; holding [v] (truthy v)) := by intro _; rfl) : PT X a (tTru K ta) := by
  subst hK
  exact pt_truth ha he
theorem fldK (he : PE X e te) (hK : X.K = K := by rfl) (hb : attributeBase e fld X.env (eval e X.env) = eval e X.env := by rfl) : PE X (.Attribute e fld pos) (tFldX K fld te) := by
  subst hK
  exact pe_fldX he hb
theorem piLK {tg l : Expr} (hl : PE X l tl) (hK : X.K = K := by rfl) : PI X tg l (iList K tl) := by
  subst hK
  exact pi_list hl
theorem piTK {tg l : Expr} (hl : PE X l tl) (hK : X.K = K := by rfl) : PI X tg l (iTup K tl) := by
  subst hK
  exact pi_tup hl
end
section
variable {P : Program} {w : World} {K : PySem.W.Frag} {mg : Str → Option Value} {base : Heap} {X : Cx} {k : Nat} {x : Str} {ps : List Str} {sp : Sp} {p pos : Pos} {e : Expr} {es : List Expr} {t : TA}
theorem calK (c : Callee P w K mg base k x ps sp) (gd : X.A.guards = some []) (hr : Room k X.A) (hg : Gl X x) (ha : PA X (e :: es) t)
    (h1 : X.prog = P := by rfl) (h2 : X.w = w := by rfl) (h3 : X.K = K := by rfl) (h4 : X.mg = mg := by rfl) (h5 : X.base = base := by rfl)
    (hdb : (x == ("__debug__" : Str)) = false := by decide)
    (he : starEach (e :: es) X.env = (false, eval e X.env) :: starEach es X.env := by rfl)
    (hpl : (backTo pos (starEach es X.env)).any (·.1) = false := by rfl) :
    PE X (.Call (.Name x p) (e :: es) [] pos) (tCall sp [] E0 t) := by
  subst h1 h2 h3 h4 h5
  exact pe_cal c gd hr hg ha hdb he hpl
theorem calK0 (c : Callee P w K mg base k x ps sp) (gd : X.A.guards = some []) (hr : Room k X.A) (hg : Gl X x)
    (h1 : X.prog = P := by rfl) (h2 : X.w = w := by rfl) (h3 : X.K = K := by rfl) (h4 : X.mg = mg := by rfl) (h5 : X.base = base := by rfl)
    (hdb : (x == ("__debug__" : Str)) = false := by decide) : PE X (.Call (.Name x p) [] [] pos) (tCall sp [] E0 tNil) := by
  subst h1 h2 h3 h4 h5
  exact pe_cal0 c gd hr hg hdb
end
section
variable {K : PySem.W.Frag} {σ : St} {H : Hp} {te : TE}
theorem evT_tru' {b : Bool} (h : Ev te σ H (is (.bl b))) : EvT (tTru K te) σ H (fun c => c = b) := evT_tru h
end
end L2.Hx

/-! #### Hx14 -/
set_option Elab.async false
set_option linter.all false
set_option maxRecDepth 100000
set_option maxHeartbeats 4000000
/-! Hx14: repr of a list that stands anywhere (its items are data). -/
namespace L2.Hx
open PySem PySem.Spec PyProof.Rows
def rReprL (K : PySem.W.Frag) : List V → Hp → VK → Prop := fun xs H Q => ∃ a y ys ds, xs = [.ref a] ∧ SqL K H a (y :: ys) ∧ DqAll K H (y :: ys) ds ∧ PyData.showableAll ds = true ∧ PyData.depthAll ds ≤ 58 ∧
  sz (.list ds) ≤ sizeLine ∧ Q (.str (PyData.list ds).shown) H
theorem call_reprL {X : Cx} (gd : X.A.guards = some []) (hu : X.A.units + 64 < cLine) : CallR X (.builtin "repr") (rReprL X.K) := by
  intro pins s σ H xs us Q I r h
  obtain ⟨a, y, ys, ds, rfl, hl, ha, hs, hp, hz, q⟩ := h
  have hz' : (PyData.list ds).shown.length ≤ sizeLine := Nat.le_trans (shown_le (.list ds) (by simpa [PyData.showable] using hs)) hz
  cases r with
  | cons rv rt =>
    cases rt
    cases rv
    obtain ⟨its, r2, ⟨o, n, ho, hc, _, hd⟩, _⟩ := I.list hl
    obtain ⟨as, R, hm⟩ := DqAll.reads I ha its r2
    cases r2 with
    | cons r1 r2 =>
      have R' : Reads s.heap (.ref a) (.list ds) _ := Reads.list ho hc hd R
      simp only [PyData.shown] at q hz'
      obtain ⟨bs, hb, hk⟩ := ReprAllK.of_readsAll (prog := X.prog) (w := X.w) R hs (fun _ => hm) fun t ht => Nat.le_trans (listText_mem_le ht) hz'
      have hna : a ∉ bs := not_mem_of_deeper R' (by simp only [PyData.depth]; omega) hb
      exact call_repr_slot (by omega) ⟨o, ho, hc⟩ F.slot_list_repr.toG (call_list_reprK (A := X.A.in1) ho hc hd hna (by simpa using hk.length_eq) (fun i y e => hk.item i y (by simpa using e)) gd (fun b _ => Clear.nil b)
        (by show X.A.units + 1 + _ < cLine; omega) (fun _ _ e => e) (fun h' u tk hk => ⟨_, _, rfl, V.str _, H, I.kept hk, ⟨_, rfl⟩, q⟩) hz')
theorem cReprL {X : Cx} (K : PySem.W.Frag) (gd : X.A.guards = some []) (hu : X.A.units + 64 < cLine) (hK : X.K = K := by rfl) : CallR X (.builtin "repr") (rReprL K) := by
  subst hK
  exact call_reprL gd hu
theorem Same.seqT {K : PySem.W.Frag} {H H' : Hp} {a : Addr} {xs : List V} (e : Same H H') (h : SqT K H a xs) : SqT K H' a xs :=
  h.elim (fun r => .inl (r.elim (fun q => .inl (e _ _ q)) fun ⟨o, q⟩ => .inr ⟨o, e _ _ q⟩)) .inr
mutual
theorem Dq.grow {K : PySem.W.Frag} {H H' : Hp} (s : Same H H') : ∀ {v : V} {d : PyData}, Dq K H v d → Dq K H' v d
  | _, _, .non => .non
  | _, _, .bl b => .bl b
  | _, _, .int i => .int i
  | _, _, .str x => .str x
  | _, _, .lst h n a => .lst (s _ _ h) n (DqAll.grow s a)
  | _, _, .tup h a => .tup (Same.seqT s h) (DqAll.grow s a)
  | _, _, .dct h a => .dct (s _ _ h) (DqAll.grow s a)
theorem DqAll.grow {K : PySem.W.Frag} {H H' : Hp} (s : Same H H') : ∀ {vs : List V} {ds : List PyData}, DqAll K H vs ds → DqAll K H' vs ds
  | _, _, .nil => .nil
  | _, _, .cons h t => .cons (Dq.grow s h) (DqAll.grow s t)
end
theorem DqAll.rep {K : PySem.W.Frag} {H : Hp} {v : V} {d : PyData} (h : Dq K H v d) : ∀ n : Nat, DqAll K H (List.replicate n v) (List.replicate n d)
  | 0 => .nil
  | n + 1 => .cons h (DqAll.rep h n)
theorem showable_rep {d : PyData} (h : d.showable = true) : ∀ n : Nat, PyData.showableAll (List.replicate n d) = true
  | 0 => rfl
  | n + 1 => by
    rw [List.replicate_succ]
    simp only [PyData.showableAll, h, showable_rep h n, Bool.and_self]
theorem depth_rep {d : PyData} : ∀ n : Nat, PyData.depthAll (List.replicate n d) ≤ d.depth
  | 0 => Nat.zero_le _
  | n + 1 => by
    rw [List.replicate_succ]
    simp only [PyData.depthAll]
    have := depth_rep (d := d) n
    omega
theorem sz_rep {d : PyData} : ∀ n : Nat, szAll (List.replicate n d) = n * (sz d + 2)
  | 0 => by simp [szAll]
  | n + 1 => by
    rw [List.replicate_succ]
    simp only [szAll]
    rw [sz_rep n, Nat.add_mul]
    omega
theorem paired_get {α β : Type} {F : α → β → Prop} : ∀ {l : List α} {es : List β}, Paired F l es → ∀ (i : Nat) (x : β), es[i]? = some x → ∃ a, l[i]? = some a ∧ F a x
  | _, _, .nil, i, x, h => by simp at h
  | _, _, .cons h t, 0, x, e => by
    simp at e
    subst e
    exact ⟨_, rfl, h⟩
  | _, _, .cons h t, i + 1, x, e => by
    simp at e
    obtain ⟨a, q, f⟩ := paired_get t i x e
    exact ⟨a, by simpa using q, f⟩
/-- data of which the law's texts are made -/
def Small (d : PyData) : Prop := d.showable = true ∧ d.depth ≤ 40 ∧ sz d ≤ 100000
end L2.Hx

/-! #### R0 -/
set_option Elab.async false
set_option linter.all false
set_option maxRecDepth 100000
set_option maxHeartbeats 4000000
namespace L2.Hx
open PySem PySem.Spec PyProof.Rows
def top (i : Nat) : Stmt := PySem.Challenge.pw_heldnames_k01_errors.main.body.getD i (.Pass ⟨0, 0, 0, 0⟩)
abbrev s__law_cell : Stmt := top 15
abbrev N__law_cell : List Str := ["_law_script", "_law_index"]
theorem c__law_cell : FnScope N__law_cell ["_law_script", "_law_index"] (defScope s__law_cell) := ⟨rfl, rfl, rfl, by decide +kernel, rfl, by decide +kernel, by decide +kernel⟩
-- _law_cell: calls []; builtins ['len']; classes []
abbrev s__law_hash : Stmt := top 16
abbrev N__law_hash : List Str := ["_law_seed", "_law_index", "_law_mixed"]
theorem c__law_hash : FnScope N__law_hash ["_law_seed", "_law_index"] (defScope s__law_hash) := ⟨rfl, rfl, rfl, by decide +kernel, rfl, by decide +kernel, by decide +kernel⟩
-- _law_hash: calls []; builtins ['int']; classes []
abbrev s__law_generator : Stmt := top 17
abbrev N__law_generator : List Str := ["_law_script", "_law_index", "_law_seed"]
theorem c__law_generator : FnScope N__law_generator ["_law_script", "_law_index"] (defScope s__law_generator) := ⟨rfl, rfl, rfl, by decide +kernel, rfl, by decide +kernel, by decide +kernel⟩
-- _law_generator: calls ['_law_cell']; builtins ['int', 'max']; classes []
abbrev s__law_random : Stmt := top 18
abbrev N__law_random : List Str := ["_law_generator_here", "_law_bound", "_law_drawn", "_law_turn"]
theorem c__law_random : FnScope N__law_random ["_law_generator_here", "_law_bound"] (defScope s__law_random) := ⟨rfl, rfl, rfl, by decide +kernel, rfl, by decide +kernel, by decide +kernel⟩
-- _law_random: calls ['_law_hash']; builtins ['int', 'range']; classes []
abbrev s__law_kinds : Stmt := top 19
abbrev N__law_kinds : List Str := ["_law_error", "_law_classes", "_law_at"]
theorem c__law_kinds : FnScope N__law_kinds ["_law_error"] (defScope s__law_kinds) := ⟨rfl, rfl, rfl, by decide +kernel, rfl, by decide +kernel, by decide +kernel⟩
-- _law_kinds: calls []; builtins ['ValueError', 'isinstance', 'range']; classes ['HeldError', 'InvalidCells', 'InvalidItem', 'InvalidList', 'InvalidName', 'InvalidPlace', 'InvalidProgram', 'InvalidRun', 'InvalidText', 'InvalidWord', 'NothingToUndo', 'TakenName', 'UnknownName']
abbrev s__law_right : Stmt := top 20
abbrev N__law_right : List Str := ["_law_errors", "_law_given", "_law_fields", "_law_error", "_law_at"]
theorem c__law_right : FnScope N__law_right ["_law_errors", "_law_given"] (defScope s__law_right) := ⟨rfl, rfl, rfl, by decide +kernel, rfl, by decide +kernel, by decide +kernel⟩
-- _law_right: calls ['_law_kinds']; builtins ['range', 'repr']; classes []
abbrev s__law_placed : Stmt := top 21
abbrev N__law_placed : List Str := ["_law_given", "_law_found"]
theorem c__law_placed : FnScope N__law_placed ["_law_given"] (defScope s__law_placed) := ⟨rfl, rfl, rfl, by decide +kernel, rfl, by decide +kernel, by decide +kernel⟩
-- _law_placed: calls []; builtins []; classes ['InvalidCells', 'InvalidItem', 'InvalidList', 'InvalidName', 'InvalidPlace', 'InvalidProgram', 'InvalidRun', 'InvalidText', 'InvalidWord', 'TakenName', 'UnknownName']
abbrev s__law_named : Stmt := top 22
abbrev N__law_named : List Str := ["_law_given", "_law_found"]
theorem c__law_named : FnScope N__law_named ["_law_given"] (defScope s__law_named) := ⟨rfl, rfl, rfl, by decide +kernel, rfl, by decide +kernel, by decide +kernel⟩
-- _law_named: calls []; builtins []; classes ['InvalidCells', 'InvalidItem', 'InvalidList', 'InvalidName', 'InvalidPlace', 'InvalidProgram', 'InvalidRun', 'InvalidText', 'InvalidWord', 'TakenName', 'UnknownName']
abbrev s__law_unset : Stmt := top 23
abbrev N__law_unset : List Str := ["_law_found"]
theorem c__law_unset : FnScope N__law_unset [] (defScope s__law_unset) := ⟨rfl, rfl, rfl, by decide +kernel, rfl, by decide +kernel, by decide +kernel⟩
-- _law_unset: calls []; builtins []; classes ['InvalidCells', 'InvalidItem', 'InvalidList', 'InvalidName', 'InvalidPlace', 'InvalidProgram', 'InvalidRun', 'InvalidText', 'InvalidWord', 'TakenName', 'UnknownName']
abbrev s_law : Stmt := top 24
abbrev N_law : List Str := ["_law_script", "_law_mark", "_law_elder", "_law_given", "_law_first", "_law_second"]
theorem c_law : FnScope N_law ["_law_script"] (defScope s_law) := ⟨rfl, rfl, rfl, by decide +kernel, rfl, by decide +kernel, by decide +kernel⟩
-- law: calls ['_law_kinds', '_law_right', '_law_unset', '_law_named', '_law_placed', '_law_random', '_law_generator']; builtins ['ValueError', 'dict', 'isinstance', 'list']; classes ['NothingToUndo']

/-- what the top has written -/
structure Txt (prog : Program) (K : PySem.W.Frag) (mg : Str → Option Value) (cl : Nat → Addr) : Prop where
  k_InvalidList : XCls prog K mg "InvalidList" "value" (cl 0)
  k_InvalidItem : XCls prog K mg "InvalidItem" "value" (cl 1)
  k_InvalidProgram : XCls prog K mg "InvalidProgram" "value" (cl 2)
  k_InvalidWord : XCls prog K mg "InvalidWord" "value" (cl 3)
  k_InvalidPlace : XCls prog K mg "InvalidPlace" "value" (cl 4)
  k_InvalidRun : XCls prog K mg "InvalidRun" "value" (cl 5)
  k_InvalidCells : XCls prog K mg "InvalidCells" "value" (cl 6)
  k_InvalidText : XCls prog K mg "InvalidText" "value" (cl 7)
  k_InvalidName : XCls prog K mg "InvalidName" "name" (cl 8)
  k_TakenName : XCls prog K mg "TakenName" "name" (cl 9)
  k_UnknownName : XCls prog K mg "UnknownName" "name" (cl 10)
  k_NothingToUndo : NCls prog K mg "NothingToUndo" (cl 11)
  k_HeldError : PCls K mg "HeldError" (cl 12)
  kit : ∀ i j, i < 12 → j < 12 → PySem.W.kitOne K (.ref (cl i)) (.ref (cl j)) = some (decide (i = j))
  kitH : ∀ i, i < 12 → PySem.W.kitOne K (.ref (cl i)) (.ref (cl 12)) = some true
  kitV : ∀ i, i < 13 → PySem.W.kitOne K (.ref (cl i)) (.type "ValueError") = some true
  z_len : mg "len" = none
  z_int : mg "int" = none
  z_max : mg "max" = none
  z_range : mg "range" = none
  z_isinstance : mg "isinstance" = none
  z_repr : mg "repr" = none
  z_list : mg "list" = none
  z_dict : mg "dict" = none
  z_ValueError : mg "ValueError" = none
section
variable {prog : Program} {K : PySem.W.Frag} {mg : Str → Option Value} {cl : Nat → Addr}
theorem Txt.ex (T : Txt prog K mg cl) : ∀ i, i < 13 → ExcC K (cl i)
  | 0, _ => T.k_InvalidList.ex
  | 1, _ => T.k_InvalidItem.ex
  | 2, _ => T.k_InvalidProgram.ex
  | 3, _ => T.k_InvalidWord.ex
  | 4, _ => T.k_InvalidPlace.ex
  | 5, _ => T.k_InvalidRun.ex
  | 6, _ => T.k_InvalidCells.ex
  | 7, _ => T.k_InvalidText.ex
  | 8, _ => T.k_InvalidName.ex
  | 9, _ => T.k_TakenName.ex
  | 10, _ => T.k_UnknownName.ex
  | 11, _ => T.k_NothingToUndo.ex
  | 12, _ => T.k_HeldError.ex
  | n + 13, h => absurd h (by omega)
end

end L2.Hx

/-! #### R1 -/
set_option Elab.async false
set_option linter.all false
set_option maxRecDepth 100000
set_option maxHeartbeats 4000000
namespace L2.Hx
open PySem PySem.Spec PyProof.Rows
/-! ### _law_kinds -/
def preKinds (cl : Nat → Addr) : List V → Hp → Prop := fun vs H => ∃ e i, vs = [.ref e] ∧ i < 12 ∧ ErrIs H e (cl i)
def postKinds (cl : Nat → Addr) : List V → V → Hp → Prop := fun vs v H => ∀ e i, vs = [.ref e] → i < 12 → ErrIs H e (cl i) → ∃ l, v = .ref l ∧ H l = some (.lst [.int (i : Int)])
section
variable {σ : St} {H : Hp} {P : VP} {v : V}
theorem ev_varP {i : Nat} (h : σ[i]? = some (some v)) (m : Mono P) (p : P v H) : Ev (tVar i) σ H P := (ev_var h).weak fun x H' s e => by
  have e' : x = v := e
  rw [e']
  exact m _ _ _ s p
end
def spKinds (cl : Nat → Addr) : Sp := fun vs H Q _ => ∃ e i, vs = [.ref e] ∧ i < 12 ∧ ErrIs H e (cl i) ∧ ∀ v H', Same H H' → NewL H [.int (i : Int)] v H' → Q v H'
section
variable {P : Program} {w : World} {K : PySem.W.Frag} {mg : Str → Option Value} {base : Heap} {cl : Nat → Addr}
theorem ok_kinds (T : Txt P K mg cl) {f : Addr} {fd : FuncData} (F : Fun K "_law_kinds" "_law_kinds" s__law_kinds f fd) : FnG P w K mg base CX0 1 f fd ["_law_error"] (spKinds cl) := by
  refine okG F c__law_kinds (fun vs H Q E h => ?_) (fun cdv A outer s H vs Q E gd hr h => ?_)
  · obtain ⟨e, i, rfl, _⟩ := h
    rfl
  · obtain ⟨e, i, rfl, hi, he, k⟩ := h
    have nd := c__law_kinds.nd
    refine ⟨_, (pss_cons (ps_set (i := 1) nd rfl (by first | exact Or.inl rfl | exact Or.inr rfl) (pe_lst (pa_cons (pe_callB (cIsK K) (by rfl) T.z_isinstance (by decide +kernel) (pa_cons (pv 0) (pa_cons (pe_glob (v := .ref (cl 0)) rfl T.k_InvalidList.m rfl) pa_nil))) (pa_cons (pe_callB (cIsK K) (by rfl) T.z_isinstance (by decide +kernel) (pa_cons (pv 0) (pa_cons (pe_glob (v := .ref (cl 1)) rfl T.k_InvalidItem.m rfl) pa_nil))) (pa_cons (pe_callB (cIsK K) (by rfl) T.z_isinstance (by decide +kernel) (pa_cons (pv 0) (pa_cons (pe_glob (v := .ref (cl 2)) rfl T.k_InvalidProgram.m rfl) pa_nil))) pa_nil)))))
          (pss_cons (ps_set (i := 1) nd rfl (by first | exact Or.inl rfl | exact Or.inr rfl) (pe_op (oAddK K) (pv 1) (pe_lst (pa_cons (pe_callB (cIsK K) (by rfl) T.z_isinstance (by decide +kernel) (pa_cons (pv 0) (pa_cons (pe_glob (v := .ref (cl 3)) rfl T.k_InvalidWord.m rfl) pa_nil))) (pa_cons (pe_callB (cIsK K) (by rfl) T.z_isinstance (by decide +kernel) (pa_cons (pv 0) (pa_cons (pe_glob (v := .ref (cl 4)) rfl T.k_InvalidPlace.m rfl) pa_nil))) pa_nil)))))
          (pss_cons (ps_set (i := 1) nd rfl (by first | exact Or.inl rfl | exact Or.inr rfl) (pe_op (oAddK K) (pv 1) (pe_lst (pa_cons (pe_callB (cIsK K) (by rfl) T.z_isinstance (by decide +kernel) (pa_cons (pv 0) (pa_cons (pe_glob (v := .ref (cl 5)) rfl T.k_InvalidRun.m rfl) pa_nil))) (pa_cons (pe_callB (cIsK K) (by rfl) T.z_isinstance (by decide +kernel) (pa_cons (pv 0) (pa_cons (pe_glob (v := .ref (cl 6)) rfl T.k_InvalidCells.m rfl) pa_nil))) pa_nil)))))
          (pss_cons (ps_set (i := 1) nd rfl (by first | exact Or.inl rfl | exact Or.inr rfl) (pe_op (oAddK K) (pv 1) (pe_lst (pa_cons (pe_callB (cIsK K) (by rfl) T.z_isinstance (by decide +kernel) (pa_cons (pv 0) (pa_cons (pe_glob (v := .ref (cl 7)) rfl T.k_InvalidText.m rfl) pa_nil))) (pa_cons (pe_callB (cIsK K) (by rfl) T.z_isinstance (by decide +kernel) (pa_cons (pv 0) (pa_cons (pe_glob (v := .ref (cl 8)) rfl T.k_InvalidName.m rfl) pa_nil))) pa_nil)))))
          (pss_cons (ps_set (i := 1) nd rfl (by first | exact Or.inl rfl | exact Or.inr rfl) (pe_op (oAddK K) (pv 1) (pe_lst (pa_cons (pe_callB (cIsK K) (by rfl) T.z_isinstance (by decide +kernel) (pa_cons (pv 0) (pa_cons (pe_glob (v := .ref (cl 9)) rfl T.k_TakenName.m rfl) pa_nil))) (pa_cons (pe_callB (cIsK K) (by rfl) T.z_isinstance (by decide +kernel) (pa_cons (pv 0) (pa_cons (pe_glob (v := .ref (cl 10)) rfl T.k_UnknownName.m rfl) pa_nil))) pa_nil)))))
          (pss_cons (ps_if (PW.pt (pw_or (pt_not (ptK K (pe_callB (cIsK K) (by rfl) T.z_isinstance (by decide +kernel) (pa_cons (pv 0) (pa_cons (pe_glob (v := .ref (cl 12)) rfl T.k_HeldError.m rfl) pa_nil))))) (pw_or1 (pt_not (ptK K (pe_callB (cIsK K) (by rfl) T.z_isinstance (by decide +kernel) (pa_cons (pv 0) (pa_cons (pe_bltn (v := .ty "ValueError") (by rfl) T.z_ValueError (by decide +kernel) rfl) pa_nil)))))))) (pss_one (ps_ret (pe_lst pa_nil))) pss_nil)
          (pss_one (ps_ret (pe_lc (own := [("_law_at", 2)]) rfl nd (pi_range1 rfl T.z_range (pa_cons pe_int pa_nil)) (blkOk_by (N := N__law_kinds) (sc := defScope s__law_kinds) (by decide +kernel)) (fun _ _ _ _ _ => (pg_name (i := 2) nd rfl (by first | exact Or.inl rfl | exact Or.inr rfl))) (fun _ _ _ _ _ => (pts_one (ptK K (pe_ix (ixK K) (pe_op (oAddK K) (pv 1) (pe_lst (pa_cons (pe_callB (cIsK K) (by rfl) T.z_isinstance (by decide +kernel) (pa_cons (pv 0) (pa_cons (pe_glob (v := .ref (cl 11)) rfl T.k_NothingToUndo.m rfl) pa_nil))) pa_nil))) (pv 2) (fun _ _ => rfl))))) (fun _ _ _ _ _ => (pv 2))))))))))), ?_⟩
    have I : ∀ (σ : St) (H1 : Hp) (j : Nat), j < 12 → σ[0]? = some (some (.ref e)) → ErrIs H1 e (cl i) → Ev (tCB (rIsA K) (tCons (tVar 0) (tCons (tC (V.ref (cl j))) tNil))) σ H1 (is (.bl (decide (i = j)))) :=
      fun σ H1 j hj hv he1 => ev_isE hv he1 (T.ex i (by omega)) ev_c (fun _ h => h) (T.kit i j hi hj)
    refine st_set (ev_new (ev_lstK (evA_k (I _ _ 0 (by decide) rfl he) (evA_k (I _ _ 1 (by decide) rfl he) (evA_k (I _ _ 2 (by decide) rfl he) evA_nil))) (by simp))) fun x1 H1 s1 p1 => ?_
    have he := he.grow s1
    refine st_set (ev_new (ev_catL (ev_varP rfl mono_isL p1) (ev_new (ev_lstK (evA_k (I _ _ 3 (by decide) rfl he) (evA_k (I _ _ 4 (by decide) rfl he) evA_nil)) (by simp))) (by simp))) fun x2 H2 s2 p2 => ?_
    have he := he.grow s2
    refine st_set (ev_new (ev_catL (ev_varP rfl mono_isL p2) (ev_new (ev_lstK (evA_k (I _ _ 5 (by decide) rfl he) (evA_k (I _ _ 6 (by decide) rfl he) evA_nil)) (by simp))) (by simp))) fun x3 H3 s3 p3 => ?_
    have he := he.grow s3
    refine st_set (ev_new (ev_catL (ev_varP rfl mono_isL p3) (ev_new (ev_lstK (evA_k (I _ _ 7 (by decide) rfl he) (evA_k (I _ _ 8 (by decide) rfl he) evA_nil)) (by simp))) (by simp))) fun x4 H4 s4 p4 => ?_
    have he := he.grow s4
    refine st_set (ev_new (ev_catL (ev_varP rfl mono_isL p4) (ev_new (ev_lstK (evA_k (I _ _ 9 (by decide) rfl he) (evA_k (I _ _ 10 (by decide) rfl he) evA_nil)) (by simp))) (by simp))) fun x5 H5 s5 p5 => ?_
    have he := he.grow s5
    refine st_if (evT_or (evT_not (evT_tru' (ev_isE (b := true) rfl he (T.ex i (by omega)) ev_c (fun _ h => h) (T.kitH i hi)))) (evT_not (evT_tru' (ev_isE (b := true) rfl he (T.ex i (by omega)) ev_c (fun _ h => h) (T.kitV i (by omega)))))) fun b H6 s6 eb => ?_
    subst eb
    rw [if_neg (by decide)]
    have he := he.grow s6
    have p5 := mono_isL _ _ _ s6 p5
    refine st_ret (ev_lc (Pe := fun k => is (.int (k : Int))) (keep := fun k => decide (i = k)) (fun k => [some (.ref e), some x5, some (.int (k : Int))]) (evI_range (n := 12) (evA_k ev_c evA_nil) (by decide)) (by decide) (fun k x hx H7 s7 Q q => ?_) (fun k hk => rfl) (fun k hk H7 s7 => ?_) (fun k hk _ H7 D acc s7 h1 h2 => ?_) (fun k => mono_is)) fun v H7 s7 p7 => ?_
    · rw [List.getElem?_map] at hx
      by_cases hk : k < 12
      · rw [List.getElem?_range hk] at hx
        cases hx
        exact q
      · rw [List.getElem?_eq_none (by simpa using hk)] at hx
        cases hx
    · have hk : k < 12 := by simpa using hk
      refine evT_tru' (ev_ixN (ev_new (ev_catL (ev_varP rfl mono_isL (mono_isL _ _ _ s7 p5)) (ev_new (ev_lstK (evA_k (I _ _ 11 (by decide) rfl (he.grow s7)) evA_nil) (by simp))) (by simp))) (ev_var rfl) ?_)
      have : k = 0 ∨ k = 1 ∨ k = 2 ∨ k = 3 ∨ k = 4 ∨ k = 5 ∨ k = 6 ∨ k = 7 ∨ k = 8 ∨ k = 9 ∨ k = 10 ∨ k = 11 := by omega
      rcases this with rfl | rfl | rfl | rfl | rfl | rfl | rfl | rfl | rfl | rfl | rfl | rfl <;> rfl
    · exact (ev_var rfl).weak fun _ _ _ e _ => e
    · obtain ⟨l, ys, rfl, h1, h2, pr⟩ := p7
      have fl : ∀ i, i < 12 → (List.range 12).filter (fun k => decide (i = k)) = [i] := by decide
      have fl := fl i hi
      rw [List.length_map, List.length_range, fl] at pr
      cases pr with
      | cons e1 pr =>
        cases pr
        have e1 := e1
        rw [show _ = V.int (i : Int) from e1] at h1
        have sf := s1.trans (s2.trans (s3.trans (s4.trans (s5.trans s6))))
        exact k _ _ (sf.trans s7) ⟨l, rfl, h1, sf.free h2⟩
end
end L2.Hx

/-! #### R3 -/
set_option Elab.async false
set_option linter.all false
set_option maxRecDepth 100000
set_option maxHeartbeats 4000000
namespace L2.Hx
open PySem PySem.Spec PyProof.Rows
/-! ### _law_placed, _law_named, _law_unset -/
def fldOf (k : Nat) : Str := if k < 8 then "value" else "name"
def EE (cl : Nat → Addr) (g : V) (H : Hp) (k : Nat) (x : V) : Prop := ∃ e, x = .ref e ∧ ErrAt H e (cl k) (fldOf k) g
def IsE (cl : Nat → Addr) (ks : List Nat) (g : V) : VP := fun x H => ∃ a es, x = .ref a ∧ H a = some (.lst es) ∧ Paired (EE cl g H) ks es
def NewE (H0 : Hp) (cl : Nat → Addr) (ks : List Nat) (g : V) : VP := fun x H => ∃ a es, x = .ref a ∧ H a = some (.lst es) ∧ H0 a = none ∧ Paired (EE cl g H) ks es
abbrev k11 : List Nat := [0, 1, 2, 3, 4, 5, 6, 7, 8, 9, 10]
theorem EE.grow {cl : Nat → Addr} {g : V} {H H' : Hp} (s : Same H H') {k : Nat} {x : V} (h : EE cl g H k x) : EE cl g H' k x := by
  obtain ⟨e, r, q⟩ := h
  exact ⟨e, r, q.grow s⟩
theorem mono_isE {cl : Nat → Addr} {ks : List Nat} {g : V} : Mono (IsE cl ks g) := fun _ _ _ s ⟨a, es, e, h, p⟩ => ⟨a, es, e, s _ _ h, Paired.mapP p fun _ _ q => q.grow s⟩
theorem mono_newE {H0 : Hp} {cl : Nat → Addr} {ks : List Nat} {g : V} : Mono (NewE H0 cl ks g) := fun _ _ _ s ⟨a, es, e, h, n, p⟩ => ⟨a, es, e, s _ _ h, n, Paired.mapP p fun _ _ q => q.grow s⟩
section
variable {K : PySem.W.Frag} {σ : St} {H : Hp} {te ta tb tc : TE} {t : TA} {v g : V} {cl : Nat → Addr} {k : Nat} {ks ls : List Nat}
theorem evA_E0 : EvA tNil σ H (fun vs H' => Paired (EE cl g H') [] vs) := evA_nil.weak fun vs H' _ e => by
  rw [e]
  exact .nil
theorem evA_E (h : Ev te σ H (fun x H' => EE cl g H' k x)) (ht : EvA t σ H (fun vs H' => Paired (EE cl g H') ks vs)) : EvA (tCons te t) σ H (fun vs H' => Paired (EE cl g H') (k :: ks) vs) :=
  (evA_cons h ht fun _ _ _ s q => q.grow s).weak fun vs H' _ ⟨x, r, e, p, q⟩ => by
    rw [e]
    exact .cons p q
theorem ev_lstE (h : EvA t σ H (fun vs H' => Paired (EE cl g H') ks vs)) (hz : ks.length ≤ 1000) : Ev (tLst t) σ H (NewE H cl ks g) :=
  (ev_lst h (fun vs _ e => by rw [← e.length]; exact Nat.le_trans hz (by rw [sizeLine_eq]; omega)) (fun vs _ _ s e => Paired.mapP e fun _ _ q => q.grow s)).weak fun x H' _ ⟨a, vs, e, h1, h2, h3⟩ => ⟨a, vs, e, h1, h2, h3⟩
theorem ev_newE (h : Ev te σ H (NewE H cl ks g)) : Ev te σ H (IsE cl ks g) := h.weak fun _ _ _ ⟨a, es, e, q, _, p⟩ => ⟨a, es, e, q, p⟩
theorem pairedApp {α β : Type} {F : α → β → Prop} : ∀ {l₁ : List α} {l₂ : List β} {m₁ : List α} {m₂ : List β}, Paired F l₁ l₂ → Paired F m₁ m₂ → Paired F (l₁ ++ m₁) (l₂ ++ m₂)
  | _, _, _, _, .nil, q => q
  | _, _, _, _, .cons h p, q => .cons h (pairedApp p q)
theorem ev_catE (ha : Ev ta σ H (IsE cl ks g)) (hb : Ev tb σ H (IsE cl ls g)) (hz : ks.length + ls.length ≤ 1000) : Ev (tOp (rAddA K) ta tb) σ H (NewE H cl (ks ++ ls) g) :=
  ev_op ha hb mono_isE fun x y H' s ⟨a, xs, ea, h1, p1⟩ ⟨b, ys, eb, h2, p2⟩ Q q => by
    subst ea
    subst eb
    refine .inr (.inl ⟨a, b, xs, ys, rfl, rfl, h1, h2, ?_, fun p hp => ?_⟩)
    · rw [← p1.length, ← p2.length]
      exact Nat.le_trans hz (by rw [sizeLine_eq]; omega)
    · have sg := Same.grow (o := .lst (xs ++ ys)) (Same.refl H') hp
      exact q _ _ sg ⟨p, _, rfl, upd_same, s.free hp, pairedApp (Paired.mapP p1 fun _ _ q => q.grow sg) (Paired.mapP p2 fun _ _ q => q.grow sg)⟩
theorem ev_E {k : Nat} (h : Ev te σ H (is g)) : Ev (tMkF (cl k) (fldOf k) [] (tCons te tNil)) σ H (fun x H' => EE cl g H' k x) := (ev_mkX h).weak fun x H' _ ⟨a, e, q, _⟩ => ⟨a, e, q⟩
theorem ev_E0 {k : Nat} : Ev (tMkF (cl k) (fldOf k) [.non] tNil) σ H (fun x H' => EE cl .non H' k x) := ev_mkX0.weak fun x H' _ ⟨a, e, q, _⟩ => ⟨a, e, q⟩
end
def spPlaced (cl : Nat → Addr) : Sp := fun vs H Q _ => ∃ g, vs = [g] ∧ ∀ v H', Same H H' → NewE H cl k11 g v H' → Q v H'
def spUnset (cl : Nat → Addr) : Sp := fun vs H Q _ => vs = [] ∧ ∀ v H', Same H H' → NewE H cl k11 .non v H' → Q v H'
section
variable {P : Program} {w : World} {K : PySem.W.Frag} {mg : Str → Option Value} {base : Heap} {cl : Nat → Addr}
theorem ok_placed (T : Txt P K mg cl) {f : Addr} {fd : FuncData} (F : Fun K "_law_placed" "_law_placed" s__law_placed f fd) : FnG P w K mg base CX0 2 f fd ["_law_given"] (spPlaced cl) := by
  refine okG F c__law_placed (fun vs H Q E h => ?_) (fun cdv A outer s H vs Q E gd hr h => ?_)
  · obtain ⟨g, rfl, _⟩ := h
    rfl
  · obtain ⟨g, rfl, k⟩ := h
    have nd := c__law_placed.nd
    refine ⟨_, (pss_cons (ps_set (i := 1) nd rfl (by first | exact Or.inl rfl | exact Or.inr rfl) (pe_lst (pa_cons (pe_mkX T.k_InvalidList hr rfl (pa_cons (pv 0) pa_nil)) (pa_cons (pe_mkX T.k_InvalidItem hr rfl (pa_cons (pv 0) pa_nil)) (pa_cons (pe_mkX T.k_InvalidProgram hr rfl (pa_cons (pv 0) pa_nil)) (pa_cons (pe_mkX T.k_InvalidWord hr rfl (pa_cons (pv 0) pa_nil)) (pa_cons (pe_mkX T.k_InvalidPlace hr rfl (pa_cons (pv 0) pa_nil)) pa_nil)))))))
          (pss_cons (ps_set (i := 1) nd rfl (by first | exact Or.inl rfl | exact Or.inr rfl) (pe_op (oAddK K) (pv 1) (pe_lst (pa_cons (pe_mkX T.k_InvalidRun hr rfl (pa_cons (pv 0) pa_nil)) (pa_cons (pe_mkX T.k_InvalidCells hr rfl (pa_cons (pv 0) pa_nil)) (pa_cons (pe_mkX T.k_InvalidText hr rfl (pa_cons (pv 0) pa_nil)) pa_nil))))))
          (pss_one (ps_ret (pe_op (oAddK K) (pv 1) (pe_lst (pa_cons (pe_mkX T.k_InvalidName hr rfl (pa_cons (pv 0) pa_nil)) (pa_cons (pe_mkX T.k_TakenName hr rfl (pa_cons (pv 0) pa_nil)) (pa_cons (pe_mkX T.k_UnknownName hr rfl (pa_cons (pv 0) pa_nil)) pa_nil))))))))), ?_⟩
    have V : ∀ (σ : St) (H1 : Hp), σ[0]? = some (some g) → Ev (tVar 0) σ H1 (is g) := fun σ H1 h => ev_var h
    refine st_set (ev_newE (ev_lstE (evA_E (ev_E (k := 0) (V _ _ rfl)) (evA_E (ev_E (k := 1) (V _ _ rfl)) (evA_E (ev_E (k := 2) (V _ _ rfl)) (evA_E (ev_E (k := 3) (V _ _ rfl)) (evA_E (ev_E (k := 4) (V _ _ rfl)) evA_E0))))) (by decide))) fun x1 H1 s1 p1 => ?_
    refine st_set (ev_newE (ev_catE (ev_varP rfl mono_isE p1) (ev_newE (ev_lstE (evA_E (ev_E (k := 5) (V _ _ rfl)) (evA_E (ev_E (k := 6) (V _ _ rfl)) (evA_E (ev_E (k := 7) (V _ _ rfl)) evA_E0))) (by decide))) (by decide))) fun x2 H2 s2 p2 => ?_
    refine st_ret (ev_catE (ev_varP rfl mono_isE p2) (ev_newE (ev_lstE (evA_E (ev_E (k := 8) (V _ _ rfl)) (evA_E (ev_E (k := 9) (V _ _ rfl)) (evA_E (ev_E (k := 10) (V _ _ rfl)) evA_E0))) (by decide))) (by decide)) fun x3 H3 s3 p3 => ?_
    obtain ⟨a, es, e, h1, h2, h3⟩ := p3
    exact k _ _ (s1.trans (s2.trans s3)) ⟨a, es, e, h1, (s1.trans s2).free h2, h3⟩
theorem ok_named (T : Txt P K mg cl) {f : Addr} {fd : FuncData} (F : Fun K "_law_named" "_law_named" s__law_named f fd) : FnG P w K mg base CX0 2 f fd ["_law_given"] (spPlaced cl) := by
  refine okG F c__law_named (fun vs H Q E h => ?_) (fun cdv A outer s H vs Q E gd hr h => ?_)
  · obtain ⟨g, rfl, _⟩ := h
    rfl
  · obtain ⟨g, rfl, k⟩ := h
    have nd := c__law_named.nd
    refine ⟨_, (pss_cons (ps_set (i := 1) nd rfl (by first | exact Or.inl rfl | exact Or.inr rfl) (pe_lst (pa_cons (pe_mkXK T.k_InvalidList hr rfl (pv 0)) (pa_cons (pe_mkXK T.k_InvalidItem hr rfl (pv 0)) (pa_cons (pe_mkXK T.k_InvalidProgram hr rfl (pv 0)) pa_nil)))))
          (pss_cons (ps_set (i := 1) nd rfl (by first | exact Or.inl rfl | exact Or.inr rfl) (pe_op (oAddK K) (pv 1) (pe_lst (pa_cons (pe_mkXK T.k_InvalidWord hr rfl (pv 0)) (pa_cons (pe_mkXK T.k_InvalidPlace hr rfl (pv 0)) (pa_cons (pe_mkXK T.k_InvalidRun hr rfl (pv 0)) pa_nil))))))
          (pss_cons (ps_set (i := 1) nd rfl (by first | exact Or.inl rfl | exact Or.inr rfl) (pe_op (oAddK K) (pv 1) (pe_lst (pa_cons (pe_mkXK T.k_InvalidCells hr rfl (pv 0)) (pa_cons (pe_mkXK T.k_InvalidText hr rfl (pv 0)) pa_nil)))))
          (pss_one (ps_ret (pe_op (oAddK K) (pv 1) (pe_lst (pa_cons (pe_mkXK T.k_InvalidName hr rfl (pv 0)) (pa_cons (pe_mkXK T.k_TakenName hr rfl (pv 0)) (pa_cons (pe_mkXK T.k_UnknownName hr rfl (pv 0)) pa_nil)))))))))), ?_⟩
    have V : ∀ (σ : St) (H1 : Hp), σ[0]? = some (some g) → Ev (tVar 0) σ H1 (is g) := fun σ H1 h => ev_var h
    refine st_set (ev_newE (ev_lstE (evA_E (ev_E (k := 0) (V _ _ rfl)) (evA_E (ev_E (k := 1) (V _ _ rfl)) (evA_E (ev_E (k := 2) (V _ _ rfl)) evA_E0))) (by decide))) fun x1 H1 s1 p1 => ?_
    refine st_set (ev_newE (ev_catE (ev_varP rfl mono_isE p1) (ev_newE (ev_lstE (evA_E (ev_E (k := 3) (V _ _ rfl)) (evA_E (ev_E (k := 4) (V _ _ rfl)) (evA_E (ev_E (k := 5) (V _ _ rfl)) evA_E0))) (by decide))) (by decide))) fun x2 H2 s2 p2 => ?_
    refine st_set (ev_newE (ev_catE (ev_varP rfl mono_isE p2) (ev_newE (ev_lstE (evA_E (ev_E (k := 6) (V _ _ rfl)) (evA_E (ev_E (k := 7) (V _ _ rfl)) evA_E0)) (by decide))) (by decide))) fun x3 H3 s3 p3 => ?_
    refine st_ret (ev_catE (ev_varP rfl mono_isE p3) (ev_newE (ev_lstE (evA_E (ev_E (k := 8) (V _ _ rfl)) (evA_E (ev_E (k := 9) (V _ _ rfl)) (evA_E (ev_E (k := 10) (V _ _ rfl)) evA_E0))) (by decide))) (by decide)) fun x4 H4 s4 p4 => ?_
    obtain ⟨a, es, e, h1, h2, h3⟩ := p4
    exact k _ _ (s1.trans (s2.trans (s3.trans s4))) ⟨a, es, e, h1, (s1.trans (s2.trans s3)).free h2, h3⟩
theorem ok_unset (T : Txt P K mg cl) {f : Addr} {fd : FuncData} (F : Fun K "_law_unset" "_law_unset" s__law_unset f fd) : FnG P w K mg base CX0 2 f fd [] (spUnset cl) := by
  refine okG F c__law_unset (fun vs H Q E h => ?_) (fun cdv A outer s H vs Q E gd hr h => ?_)
  · obtain ⟨rfl, _⟩ := h
    rfl
  · obtain ⟨rfl, k⟩ := h
    have nd := c__law_unset.nd
    refine ⟨_, (pss_cons (ps_set (i := 0) nd rfl (by first | exact Or.inl rfl | exact Or.inr rfl) (pe_lst (pa_cons (pe_mkX0 T.k_InvalidList hr rfl) (pa_cons (pe_mkX0 T.k_InvalidItem hr rfl) (pa_cons (pe_mkX0 T.k_InvalidProgram hr rfl) (pa_cons (pe_mkX0 T.k_InvalidWord hr rfl) (pa_cons (pe_mkX0 T.k_InvalidPlace hr rfl) (pa_cons (pe_mkX0 T.k_InvalidRun hr rfl) pa_nil))))))))
          (pss_one (ps_ret (pe_op (oAddK K) (pv 0) (pe_lst (pa_cons (pe_mkX0 T.k_InvalidCells hr rfl) (pa_cons (pe_mkX0 T.k_InvalidText hr rfl) (pa_cons (pe_mkX0 T.k_InvalidName hr rfl) (pa_cons (pe_mkX0 T.k_TakenName hr rfl) (pa_cons (pe_mkX0 T.k_UnknownName hr rfl) pa_nil)))))))))), ?_⟩
    refine st_set (ev_newE (ev_lstE (evA_E (ev_E0 (k := 0)) (evA_E (ev_E0 (k := 1)) (evA_E (ev_E0 (k := 2)) (evA_E (ev_E0 (k := 3)) (evA_E (ev_E0 (k := 4)) (evA_E (ev_E0 (k := 5)) evA_E0)))))) (by decide))) fun x1 H1 s1 p1 => ?_
    refine st_ret (ev_catE (ev_varP rfl mono_isE p1) (ev_newE (ev_lstE (evA_E (ev_E0 (k := 6)) (evA_E (ev_E0 (k := 7)) (evA_E (ev_E0 (k := 8)) (evA_E (ev_E0 (k := 9)) (evA_E (ev_E0 (k := 10)) evA_E0))))) (by decide))) (by decide)) fun x2 H2 s2 p2 => ?_
    obtain ⟨a, es, e, h1, h2, h3⟩ := p2
    exact k _ _ (s1.trans s2) ⟨a, es, e, h1, s1.free h2, h3⟩
end
end L2.Hx

/-! #### R2 -/
set_option Elab.async false
set_option linter.all false
set_option maxRecDepth 100000
set_option maxHeartbeats 4000000
namespace L2.Hx
open PySem PySem.Spec PyProof.Rows
/-! ### _law_right -/
theorem st_next {D : Ends} {σ : St} {H : Hp} (h : D.nx σ H) : tNext D σ H := h
section
variable {K : PySem.W.Frag} {σ : St} {H : Hp} {te ta tb tc : TE} {t : TA} {v g : V} {cl : Nat → Addr} {k s : Nat} {ks ls : List Nat} {wi : TI} {xs : List V} {Pe : Nat → VP} {fld : Str}
theorem filter_yes (n : Nat) : (List.range n).filter (fun _ => true) = List.range n := by simp
theorem ev_map (hi : EvI wi σ H xs) (hz : xs.length ≤ 1000) (hs : s < σ.length)
    (he : ∀ i x, xs[i]? = some x → ∀ H1 D acc, Same H H1 → H1 D = some (.lst acc) → H D = none → Ev te (σ.set s (some x)) H1 (fun y H2 => ∀ o, Pe i y (upd H2 D o))) (hm : ∀ i, Mono (Pe i)) :
    Ev (tLc wi (gName s) tYes te [s]) σ H (fun v H' => ∃ l ys, v = .ref l ∧ H' l = some (.lst ys) ∧ H l = none ∧ Paired (fun i y => Pe i y H') (List.range xs.length) ys) := by
  have z := ev_lc (te := te) (tt := tYes) (g := gName s) (vs := [s]) (keep := fun _ => true) (Pe := Pe) (fun i => σ.set s xs[i]?) hi (by omega) (fun i x hx H1 s1 Q q => ?_) (fun i hi => ?_) (fun i hi H1 s1 H2 s2 Q q => q true H2 (Same.refl _) rfl) (fun i hi _ H1 D acc s1 h1 h2 => ?_) hm
  · rw [filter_yes] at z
    exact z
  · show Q ((σ.set s none).set s (some x)) H1
    rw [List.set_set, ← hx]
    exact q
  · show (σ.set s xs[i]?).set s none = σ.set s none
    rw [List.set_set]
  · have hx : xs[i]? = some xs[i] := List.getElem?_eq_getElem hi
    rw [hx]
    exact he i _ hx H1 D acc s1 h1 h2
theorem paired_rep {F : Nat → V → Prop} (h : ∀ i y, F i y → y = g) : ∀ {l : List Nat} {ys : List V}, Paired F l ys → ys = List.replicate l.length g
  | _, _, .nil => rfl
  | _, _, .cons a t => by
    rw [h _ _ a, paired_rep h t]
    rfl
/-- [e.f for e in ..] -/
theorem ev_flds (hi : EvI wi σ H xs) (hz : xs.length ≤ 1000) (hs : s < σ.length) (hx : ∀ x ∈ xs, ∃ a C, x = .ref a ∧ ErrAt H a C fld g ∧ FldC K C fld) :
    Ev (tLc wi (gName s) tYes (tFldX K fld (tVar s)) [s]) σ H (NewL H (List.replicate xs.length g)) := by
  refine (ev_map (Pe := fun _ => is g) hi hz hs (fun i x e H1 D acc s1 h1 h2 => ?_) (fun _ => mono_is)).weak fun v H' s' ⟨l, ys, e, h1, h2, p⟩ => ?_
  · obtain ⟨a, C, rfl, ea, ef⟩ := hx x (List.mem_of_getElem? e)
    have vv : Ev (tVar s) (σ.set s (some (.ref a))) H1 (is (.ref a)) := ev_var (by rw [List.getElem?_set_self hs])
    exact (ev_fldX (vv.weak fun x H' s' e => ⟨a, C, e, ea.grow (s1.trans s'), ef⟩)).weak fun y H2 _ e _ => e
  · refine ⟨l, e, ?_, h2⟩
    rw [h1, paired_rep (fun i y q => q) p, List.length_range]
theorem Paired.toDp {H : Hp} : ∀ {l : List Nat} {ys : List V}, Paired (fun (i : Nat) y => IsL [.int (i : Int)] y H) l ys → DpAll K H ys (l.map fun (i : Nat) => .list [.int (i : Int)])
  | _, _, .nil => .nil
  | _, _, .cons ⟨a, e, h⟩ t => by
    subst e
    exact .cons (.lst (SqL.of h) (.cons (.int _) .nil)) (Paired.toDp t)
end
abbrev AllL (n : Nat) : VP := fun v H' => ∃ l ys, v = .ref l ∧ H' l = some (.lst ys) ∧ Paired (fun (i : Nat) y => IsL [.int (i : Int)] y H') (List.range n) ys
theorem mono_allL {n : Nat} : Mono (AllL n) := fun _ _ _ s ⟨l, ys, e, h, p⟩ => ⟨l, ys, e, s _ _ h, Paired.mapP p fun _ _ q => mono_isL _ _ _ s q⟩
theorem isL_off {xs : List V} {y : V} {H : Hp} {D : Addr} {o : HO} (h : IsL xs y H) (n : ∀ a, y = .ref a → a ≠ D) : IsL xs y (upd H D o) := by
  obtain ⟨a, e, q⟩ := h
  exact ⟨a, e, by rw [upd_ne (n a e)]; exact q⟩
def spRight (K : PySem.W.Frag) (cl : Nat → Addr) : Sp := fun vs H Q _ => ∃ l es g d, vs = [.ref l, g] ∧ H l = some (.lst es) ∧ Paired (EE cl g H) k11 es ∧ Dq K H g d ∧ Small d ∧ ∀ H', Same H H' → Q (.bl true) H'
theorem eqv11 : PyData.eqv (.list ((List.range 11).map fun (i : Nat) => PyData.list [.int (i : Int)])) (.list ((List.range 11).map fun (i : Nat) => PyData.list [.int (i : Int)])) = true := by decide +kernel
theorem shaped11 : SeqAt.shaped (.list ((List.range 11).map fun (i : Nat) => PyData.list [.int (i : Int)])) = true := by decide +kernel
section
variable {P : Program} {w : World} {K : PySem.W.Frag} {mg : Str → Option Value} {base : Heap} {cl : Nat → Addr}
theorem Txt.rd (T : Txt P K mg cl) : ∀ i, i < 11 → FldC K (cl i) (fldOf i)
  | 0, _ => T.k_InvalidList.rd
  | 1, _ => T.k_InvalidItem.rd
  | 2, _ => T.k_InvalidProgram.rd
  | 3, _ => T.k_InvalidWord.rd
  | 4, _ => T.k_InvalidPlace.rd
  | 5, _ => T.k_InvalidRun.rd
  | 6, _ => T.k_InvalidCells.rd
  | 7, _ => T.k_InvalidText.rd
  | 8, _ => T.k_InvalidName.rd
  | 9, _ => T.k_TakenName.rd
  | 10, _ => T.k_UnknownName.rd
  | n + 11, h => absurd h (by omega)
theorem ok_right (T : Txt P K mg cl) (g__law_kinds : Callee P w K mg base 1 "_law_kinds" ["_law_error"] (spKinds cl)) {f : Addr} {fd : FuncData} (F : Fun K "_law_right" "_law_right" s__law_right f fd) : FnG P w K mg base CX0 2 f fd ["_law_errors", "_law_given"] (spRight K cl) := by
  refine okG F c__law_right (fun vs H Q E h => ?_) (fun cdv A outer s H vs Q E gd hr h => ?_)
  · obtain ⟨l, es, g, d, rfl, _⟩ := h
    rfl
  · obtain ⟨l, es, g, d, rfl, hl, pe, dg, sm, k⟩ := h
    have nd := c__law_right.nd
    have hu := hr.units
    refine ⟨_, (pss_cons (ps_if (pt_cmpR (oNeK K hu) (pe_lc (own := [("_law_error", 3)]) rfl nd (piLK K (pv 0)) (blkOk_by (N := N__law_right) (sc := defScope s__law_right) (by decide +kernel)) (fun _ _ _ _ _ => (pg_name (i := 3) nd rfl (by first | exact Or.inl rfl | exact Or.inr rfl))) (fun _ _ _ _ _ => pts_nil) (fun _ _ _ _ _ => (calK g__law_kinds gd (hr.mono (by decide)) rfl (pa_cons (pv 3) pa_nil)))) (pe_lc (own := [("_law_at", 4)]) rfl nd (pi_range1 rfl T.z_range (pa_cons pe_int pa_nil)) (blkOk_by (N := N__law_right) (sc := defScope s__law_right) (by decide +kernel)) (fun _ _ _ _ _ => (pg_name (i := 4) nd rfl (by first | exact Or.inl rfl | exact Or.inr rfl))) (fun _ _ _ _ _ => pts_nil) (fun _ _ _ _ _ => (pe_lst (pa_cons (pv 4) pa_nil)))) (by rfl)) (pss_one (ps_ret pe_bl)) pss_nil)
          (pss_cons (ps_set (i := 2) nd rfl (by first | exact Or.inl rfl | exact Or.inr rfl) (pe_op (oAddK K) (pe_lc (own := [("_law_error", 3)]) rfl nd (piLK K (pe_slice (slK K) (pv 0) po_none (po_some pe_int))) (blkOk_by (N := N__law_right) (sc := defScope s__law_right) (by decide +kernel)) (fun _ _ _ _ _ => (pg_name (i := 3) nd rfl (by first | exact Or.inl rfl | exact Or.inr rfl))) (fun _ _ _ _ _ => pts_nil) (fun _ _ _ _ _ => (fldK K (pv 3)))) (pe_lc (own := [("_law_error", 3)]) rfl nd (piLK K (pe_slice (slK K) (pv 0) (po_some pe_int) po_none)) (blkOk_by (N := N__law_right) (sc := defScope s__law_right) (by decide +kernel)) (fun _ _ _ _ _ => (pg_name (i := 3) nd rfl (by first | exact Or.inl rfl | exact Or.inr rfl))) (fun _ _ _ _ _ => pts_nil) (fun _ _ _ _ _ => (fldK K (pv 3))))))
          (pss_one (ps_ret (pe_cmpR (oEqK K hu) (pe_callB (cReprL K gd hu) (by rfl) T.z_repr (by decide +kernel) (pa_cons (pv 2) pa_nil)) (pe_callB (cReprL K gd hu) (by rfl) T.z_repr (by decide +kernel) (pa_cons (pe_op oMulA (pe_lst (pa_cons (pv 1) pa_nil)) pe_int) pa_nil)) (by rfl)))))), ?_⟩
    have pe0 := pe
    obtain _ | ⟨h0, pe⟩ := pe
    obtain _ | ⟨h1, pe⟩ := pe
    obtain _ | ⟨h2, pe⟩ := pe
    obtain _ | ⟨h3, pe⟩ := pe
    obtain _ | ⟨h4, pe⟩ := pe
    obtain _ | ⟨h5, pe⟩ := pe
    obtain _ | ⟨h6, pe⟩ := pe
    obtain _ | ⟨h7, pe⟩ := pe
    obtain _ | ⟨h8, pe⟩ := pe
    obtain _ | ⟨h9, pe⟩ := pe
    obtain _ | ⟨h10, pe⟩ := pe
    obtain _ | _ := pe
    have L : ∀ (σ : St) (H1 : Hp), Same H H1 → σ[0]? = some (some (.ref l)) → Ev (tVar 0) σ H1 (fun x H' => ∃ a, x = .ref a ∧ SqL K H' a _) := fun σ H1 s1 h => (ev_var h).weak fun x H' s' e => ⟨l, e, SqL.of (s' _ _ (s1 _ _ hl))⟩
    refine st_if (evT_cmp (b := false) (ev_op (P1 := AllL 11) (P2 := AllL 11) ?_ ?_ mono_allL fun x y H' s' p1 p2 Q q => ?_)) fun b H1 s1 eb => ?_
    · refine (ev_map (Pe := fun i => IsL [.int (i : Int)]) (evI_list (L _ _ (Same.refl _) rfl)) (by simp) (by exact (by decide : 3 < 5)) (fun i x e H1 D acc s1 h1 h2 => ?_) (fun _ => mono_isL)).weak fun v H' s' ⟨l, ys, e, h1, h2, p⟩ => ⟨l, ys, e, h1, p⟩
      obtain ⟨a, e2, ee⟩ := paired_get pe0 i x e
      have hi : i < 11 := by
        have := List.getElem?_eq_some_iff.mp e2
        exact this.1
      have ea : a = i := by
        have : ∀ i, i < 11 → k11[i]? = some i := by decide
        rw [this i hi] at e2
        exact (Option.some.inj e2).symm
      subst ea
      obtain ⟨er, rfl, ea⟩ := ee
      intro H2 s2 Q q
      refine ⟨_, rfl, er, a, rfl, by omega, (ea.is).grow (s1.trans s2), fun v H3 s3 n => ?_⟩
      obtain ⟨b, rfl, hb, nb⟩ := n
      refine q _ H3 s3 fun o => isL_off ⟨b, rfl, hb⟩ fun b' eb => ?_
      cases eb
      exact fun z => by
        subst z
        rw [s2 _ _ h1] at nb
        cases nb
    · refine (ev_map (Pe := fun i => IsL [.int (i : Int)]) (evI_range (n := 11) (evA_k ev_c evA_nil) (by decide)) (by simp) (by exact (by decide : 4 < 5)) (fun i x e H1 D acc s1 h1 h2 => ?_) (fun _ => mono_isL)).weak fun v H' s' ⟨l, ys, e, h1, h2, p⟩ => ⟨l, ys, e, h1, p⟩
      have ex : x = .int (i : Int) := by
        rw [List.getElem?_map] at e
        by_cases hk : i < 11
        · rw [List.getElem?_range hk] at e
          cases e
          rfl
        · rw [List.getElem?_eq_none (by simpa using hk)] at e
          cases e
      subst ex
      refine (ev_lstK (evA_k (ev_var rfl) evA_nil) (by simp)).weak fun y H2 s2 ⟨b, e, hb, nb⟩ o => isL_off ⟨b, e, hb⟩ fun b' eb => ?_
      subst e
      cases eb
      exact fun z => by
        subst z
        rw [h1] at nb
        cases nb
    · obtain ⟨l1, y1, rfl, h1, q1⟩ := p1
      obtain ⟨l2, y2, rfl, h2, q2⟩ := p2
      refine .inr ⟨_, _, .lst (SqL.of h1) (Paired.toDp q1), .lst (SqL.of h2) (Paired.toDp q2), shaped11, shaped11, ?_⟩
      rw [eqv11]
      exact q _ _ (Same.refl _) rfl
    subst eb
    rw [if_neg Bool.false_ne_true]
    obtain ⟨e0, rfl, h0⟩ := h0
    obtain ⟨e1, rfl, h1⟩ := h1
    obtain ⟨e2, rfl, h2⟩ := h2
    obtain ⟨e3, rfl, h3⟩ := h3
    obtain ⟨e4, rfl, h4⟩ := h4
    obtain ⟨e5, rfl, h5⟩ := h5
    obtain ⟨e6, rfl, h6⟩ := h6
    obtain ⟨e7, rfl, h7⟩ := h7
    obtain ⟨e8, rfl, h8⟩ := h8
    obtain ⟨e9, rfl, h9⟩ := h9
    obtain ⟨e10, rfl, h10⟩ := h10
    refine st_next ?_
    dsimp only
    refine st_set (ev_new (ev_catL (xs := List.replicate 8 g) (ys := List.replicate 3 g) (ev_new ?_) (ev_new ?_) (by simp))) fun x2 H2 s2 p2 => ?_
    · have sl := ev_slL (K := K) (lo := none) (hi := some 8) (tl := tNoPart) (th := tPart (tC (.int 8))) (L (start N__law_right [V.ref l, g]) H1 s1 rfl) (fun H2 s2 Q q => q) (fun H2 s2 Q q => ⟨8, rfl, q⟩)
      refine ev_flds (xs := [.ref e0, .ref e1, .ref e2, .ref e3, .ref e4, .ref e5, .ref e6, .ref e7]) (evI_list (sl.weak fun x H' s' ⟨a, e, h, _⟩ => ⟨a, e, SqL.of h⟩)) (by simp) (by exact (by decide : 3 < 5)) fun x hx => ?_
      simp only [List.mem_cons, List.not_mem_nil, or_false] at hx
      rcases hx with rfl | rfl | rfl | rfl | rfl | rfl | rfl | rfl
      · exact ⟨_, _, rfl, h0.grow s1, T.rd 0 (by decide)⟩
      · exact ⟨_, _, rfl, h1.grow s1, T.rd 1 (by decide)⟩
      · exact ⟨_, _, rfl, h2.grow s1, T.rd 2 (by decide)⟩
      · exact ⟨_, _, rfl, h3.grow s1, T.rd 3 (by decide)⟩
      · exact ⟨_, _, rfl, h4.grow s1, T.rd 4 (by decide)⟩
      · exact ⟨_, _, rfl, h5.grow s1, T.rd 5 (by decide)⟩
      · exact ⟨_, _, rfl, h6.grow s1, T.rd 6 (by decide)⟩
      · exact ⟨_, _, rfl, h7.grow s1, T.rd 7 (by decide)⟩
    · have sl := ev_slL (K := K) (lo := some 8) (hi := none) (tl := tPart (tC (.int 8))) (th := tNoPart) (L (start N__law_right [V.ref l, g]) H1 s1 rfl) (fun H2 s2 Q q => ⟨8, rfl, q⟩) (fun H2 s2 Q q => q)
      refine ev_flds (xs := [.ref e8, .ref e9, .ref e10]) (evI_list (sl.weak fun x H' s' ⟨a, e, h, _⟩ => ⟨a, e, SqL.of h⟩)) (by simp) (by exact (by decide : 3 < 5)) fun x hx => ?_
      simp only [List.mem_cons, List.not_mem_nil, or_false] at hx
      rcases hx with rfl | rfl | rfl
      · exact ⟨_, _, rfl, h8.grow s1, T.rd 8 (by decide)⟩
      · exact ⟨_, _, rfl, h9.grow s1, T.rd 9 (by decide)⟩
      · exact ⟨_, _, rfl, h10.grow s1, T.rd 10 (by decide)⟩
    have dg2 : Dq K H2 g d := dg.grow (s1.trans s2)
    obtain ⟨m1, m2, m3⟩ := sm
    have szs : sz (.list (List.replicate 11 d)) ≤ sizeLine := by
      simp only [sz, sz_rep]
      rw [sizeLine_eq]
      omega
    have R : ∀ {te : TE} {σ : St} {H1 : Hp}, Same H2 H1 → Ev te σ H1 (IsL (List.replicate 11 g)) → Ev (tCB (rReprL K) (tCons te tNil)) σ H1 (is (.str (PyData.list (List.replicate 11 d)).shown)) := fun {te σ H1} sh h =>
      ev_cb ((evA_cons h evA_nil mono_isL)) fun vs H' s' ⟨x, r, e, ⟨a, ex, p⟩, er⟩ Q q => by
        subst e
        subst ex
        subst er
        refine ⟨a, g, List.replicate 10 g, List.replicate 11 d, rfl, SqL.of p, DqAll.rep (dg2.grow (sh.trans s')) 11, showable_rep m1 11, Nat.le_trans (depth_rep 11) (by omega), szs, q _ _ (Same.refl _) rfl⟩
    refine st_ret (ev_op (P := is (.bl true)) (P1 := is (.str (PyData.list (List.replicate 11 d)).shown)) (P2 := is (.str (PyData.list (List.replicate 11 d)).shown)) (R (Same.refl _) (ev_varP rfl mono_isL (show IsL (List.replicate 11 g) _ _ from p2))) (R (Same.refl _) (ev_new (ev_repL (xs := [g]) (n := 11) (ev_new (ev_lstK (evA_k (ev_var rfl) evA_nil) (by simp))) ev_c (by decide) (by simp)))) mono_is fun x y H' s' q1 q2 Q q => ?_) fun v H3 s3 pv => ?_
    · obtain rfl : x = _ := q1
      obtain rfl : y = _ := q2
      exact .inl ⟨rfl, q _ _ (Same.refl _) (congrArg V.bl (decide_eq_true rfl))⟩
    · have pv' : v = _ := pv
      rw [pv']
      exact k _ ((s1.trans s2).trans s3)
end
end L2.Hx

/-! #### R4 -/
set_option Elab.async false
set_option linter.all false
set_option maxRecDepth 100000
set_option maxHeartbeats 4000000
namespace L2.Hx
open PySem PySem.Spec PyProof.Rows
/-! ### _law_cell, _law_hash, _law_generator, _law_random -/
section
variable {K : PySem.W.Frag} {σ : St} {H : Hp} {te ta tb : TE} {i j : Int}
theorem ev_int (h : Ev te σ H (is (.int i))) : Ev (tCB (fun xs H Q => (∃ i, xs = [V.int i] ∧ Q (V.int i) H) ∨ ∃ k, xs = [V.bl k] ∧ Q (V.int (if k = true then 1 else 0)) H) (tCons te tNil)) σ H (is (.int i)) :=
  ev_cb (evA_k h evA_nil) fun vs H' s e Q q => .inl ⟨i, e, q _ _ (Same.refl _) rfl⟩
theorem ev_max2 (h : Ev ta σ H (is (.int i))) (h2 : Ev tb σ H (is (.int j))) : Ev (tCB (fun xs H Q => ∃ i j, xs = [V.int i, V.int j] ∧ Q (V.int (if j > i then j else i)) H) (tCons ta (tCons tb tNil))) σ H (is (.int (if j > i then j else i))) :=
  ev_cb (evA_k h (evA_k h2 evA_nil)) fun vs H' s e Q q => ⟨i, j, e, q _ _ (Same.refl _) rfl⟩
theorem ev_lenL {xs : List V} (h : Ev te σ H (fun x H' => ∃ a, x = .ref a ∧ SqL K H' a xs)) : Ev (tCB (rLen K) (tCons te tNil)) σ H (is (.int (xs.length : Nat))) :=
  ev_cb (evA_cons h evA_nil (fun _ _ _ s ⟨a, e, h⟩ => ⟨a, e, s.seq h⟩)) fun vs H' s ⟨x, r, e, ⟨a, ea, hs⟩, er⟩ Q q => by
    subst e
    subst ea
    subst er
    exact ⟨_, _, rfl, .inl ⟨xs, hs, rfl⟩, q _ _ (Same.refl _) rfl⟩
theorem st_forR {ta : TA} {g : TG} {tb : TS} {D : Ends} {n : Nat} (h : EvA ta σ H (fun vs _ => vs = [.int (n : Int)])) (hn : n < 2 ^ 62)
    (k : ∀ H', Same H H' → ∃ Pv : Nat → St → Hp → Prop, Pv 0 σ H' ∧ (∀ i σ H, i < n → Pv i σ H → g (.int (0 + (i : Int))) σ H fun σ2 H2 => tb { D with nx := Pv (i + 1), ct := Pv (i + 1), bk := D.nx } σ2 H2) ∧ ∀ σ H, Pv n σ H → D.nx σ H) :
    tFor (iRng1 ta) g tb D σ H := h H (Same.refl _) _ fun vs H1 s e => by
  subst e
  obtain ⟨Pv, h0, h1, h2⟩ := k H1 s
  refine ⟨(n : Int), rfl, by omega, by omega, ?_⟩
  exact for_range (lo := 0) (n := n) Pv h0 h1 h2
theorem log2_small {n : Nat} (h : n < 2 ^ 4000) : n.log2 < 4000 := by
  by_cases e : n = 0
  · subst e
    decide
  · exact (Nat.log2_lt e).mpr h
theorem cmul (hi : i.natAbs < 2 ^ 4000) (hj : j.natAbs < 2 ^ 4000) : CMulW i j := by
  have h1 := log2_small hi
  have h2 := log2_small hj
  show _ < _
  omega
theorem cpow {i j : Int} (h : (decide (0 ≤ j ∧ (Builtin.Int.intBits i : Int) * j ≤ 2 ^ 27)) = true) : CPowB i j := by
  have h := of_decide_eq_true h
  exact h
theorem ev_bits (h : Ev te σ H (is (.int i))) : Ev (tBits te) σ H (is (.int (Builtin.Int.intBits i : Nat))) := fun H1 s Q q => h H1 s _ fun x H2 s2 e => by
  obtain rfl : x = _ := e
  exact ⟨i, rfl, q _ _ s2 rfl⟩
theorem big4000 : (10 : Nat) ^ 30 < 2 ^ 4000 := by decide +kernel
theorem abs_small (h0 : -(10 ^ 30) < i) (h1 : i < 10 ^ 30) : i.natAbs < 2 ^ 4000 := Nat.lt_trans (by omega) big4000
end
def spCell (K : PySem.W.Frag) : Sp := fun vs H Q _ => ∃ a ns, vs = [.ref a, .int 0] ∧ SqL K H a (List.map V.int ns) ∧ ∀ (i : Int) H', Same H H' → Q (.int i) H'
def spHash : Sp := fun vs H Q _ => ∃ i j : Int, vs = [.int i, .int j] ∧ 0 ≤ i ∧ i < 2147483647 ∧ 0 ≤ j ∧ j < 1000000 ∧ ∀ (r : Int) H', Same H H' → 0 ≤ r → r < 2147483587 → Q (.int r) H'
section
variable {P : Program} {w : World} {K : PySem.W.Frag} {mg : Str → Option Value} {base : Heap} {cl : Nat → Addr}
theorem ok_cell (T : Txt P K mg cl) {f : Addr} {fd : FuncData} (F : Fun K "_law_cell" "_law_cell" s__law_cell f fd) : FnG P w K mg base CX0 1 f fd ["_law_script", "_law_index"] (spCell K) := by
  refine okG F c__law_cell (fun vs H Q E h => ?_) (fun cdv A outer s H vs Q E gd hr h => ?_)
  · obtain ⟨a, ns, rfl, _⟩ := h
    rfl
  · obtain ⟨a, ns, rfl, hs, k⟩ := h
    have nd := c__law_cell.nd
    have hu := hr.units
    refine ⟨_, (pss_cons (ps_if (pt_cmpR op_lt (pv 1) (pe_callB (cLenK K) (by rfl) T.z_len PySem.boot_len (pa_cons (pv 0) pa_nil)) (by rfl)) (pss_one (ps_ret (pe_ix (ixK K) (pv 0) (pv 1) (fun _ _ => rfl)))) pss_nil)
          (pss_one (ps_ret pe_int))), ?_⟩
    have L : Ev (tVar 0) (start N__law_cell [V.ref a, V.int 0]) H (fun x H' => ∃ a, x = .ref a ∧ SqL K H' a (List.map V.int ns)) := (ev_var rfl).weak fun x H' s' e => ⟨a, e, s'.seq hs⟩
    refine st_if (evT_cmp (b := decide ((0 : Int) < ((List.map V.int ns).length : Nat))) (ev_rI0 (ev_var rfl) (ev_lenL L))) fun b H1 s1 eb => ?_
    cases ns with
    | nil =>
      subst eb
      exact k 0 H1 s1
    | cons n ns =>
      rw [show b = true from by rw [eb]; simp, if_pos rfl]
      refine st_ret (ev_ixL (K := K) (v := .int n) (L.mono s1) (ev_var rfl) ?_) fun v H2 s2 p => ?_
      · show atI (V.int n :: _) 0 = _
        unfold atI
        rw [show ixN (V.int n :: List.map V.int ns).length 0 = some 0 from by simp [ixN]]
        rfl
      · have p' : v = .int n := p
        rw [p']
        exact k n H2 (s1.trans s2)
theorem ok_hash (T : Txt P K mg cl) {f : Addr} {fd : FuncData} (F : Fun K "_law_hash" "_law_hash" s__law_hash f fd) : FnG P w K mg base CX0 1 f fd ["_law_seed", "_law_index"] spHash := by
  refine okG F c__law_hash (fun vs H Q E h => ?_) (fun cdv A outer s H vs Q E gd hr h => ?_)
  · obtain ⟨a, ns, rfl, _⟩ := h
    rfl
  · obtain ⟨i, j, rfl, i0, i1, j0, j1, k⟩ := h
    have nd := c__law_hash.nd
    have hu := hr.units
    refine ⟨_, (pss_cons (ps_set (i := 2) nd rfl (by first | exact Or.inl rfl | exact Or.inr rfl) (pe_op oMod (pe_callTy call_int1 (by rfl) T.z_int (by decide +kernel) (pa_cons (pe_op (oAddK K) (pe_op (oAddK K) (pe_op (oAddK K) (pe_op oMulA (pv 0) pe_int) (pe_op oMulA (pe_op oMulA pe_int (pv 1)) (pv 1))) (pv 1)) pe_int) pa_nil)) pe_int))
          (pss_cons (ps_set (i := 2) nd rfl (by first | exact Or.inl rfl | exact Or.inr rfl) (pe_op oMod (pe_callTy call_int1 (by rfl) T.z_int (by decide +kernel) (pa_cons (pe_op (oAddK K) (pe_op oMulA (pv 2) (pv 2)) pe_int) pa_nil)) pe_int))
          (pss_one (ps_ret (pe_op oMod (pe_callTy call_int1 (by rfl) T.z_int (by decide +kernel) (pa_cons (pe_op oMulA (pv 2) pe_int) pa_nil)) pe_int))))), ?_⟩
    have e0 : ((0 : Nat) : Int) = 0 := rfl
    refine st_set (ev_rI (by decide) (ev_int (ev_addI (ev_addI (ev_addI (ev_mulI (cmul (abs_small (by omega) (by omega)) (by decide +kernel)) (ev_var rfl) ev_c)
      (ev_mulI (cmul (abs_small (by omega) (by omega)) (abs_small (by omega) (by omega))) (ev_mulI (cmul (by decide +kernel) (abs_small (by omega) (by omega))) ev_c (ev_var rfl)) (ev_var rfl))) (ev_var rfl)) ev_c)) ev_c) fun x1 H1 s1 p1 => ?_
    obtain rfl : x1 = _ := p1
    generalize hm : (i * 1103515245 + 7919 * j * j + j + 1) % 2147483647 = m
    have m0 : 0 ≤ m := hm ▸ Int.emod_nonneg _ (by decide)
    have m1 : m < 2147483647 := hm ▸ Int.emod_lt_of_pos _ (by decide)
    refine st_set (ev_rI (by decide) (ev_int (ev_addI (ev_mulI (cmul (abs_small (by omega) (by omega)) (abs_small (by omega) (by omega))) (ev_var rfl) (ev_var rfl)) ev_c)) ev_c) fun x2 H2 s2 p2 => ?_
    obtain rfl : x2 = _ := p2
    generalize hn : (m * m + 69621) % 2147483629 = n
    have n0 : 0 ≤ n := hn ▸ Int.emod_nonneg _ (by decide)
    have n1 : n < 2147483629 := hn ▸ Int.emod_lt_of_pos _ (by decide)
    refine st_ret (ev_rI (by decide) (ev_int (ev_mulI (cmul (abs_small (by omega) (by omega)) (by decide +kernel)) (ev_var rfl) ev_c)) ev_c) fun v H3 s3 p3 => ?_
    obtain rfl : v = _ := p3
    exact k _ _ (s1.trans (s2.trans s3)) (Int.emod_nonneg _ (by decide)) (Int.emod_lt_of_pos _ (by decide))
def spGen (K : PySem.W.Frag) : Sp := fun vs H Q _ => ∃ a ns, vs = [.ref a, .int 0] ∧ SqL K H a (List.map V.int ns) ∧ ∀ v H', Same H H' → (∃ i j : Int, NewL H [.int i, .int j, .int 0] v H' ∧ 0 ≤ i ∧ i < 10 ^ 600 ∧ 0 ≤ j ∧ j < 2147483647) → Q v H'
theorem ok_generator (T : Txt P K mg cl) (g__law_cell : Callee P w K mg base 1 "_law_cell" ["_law_script", "_law_index"] (spCell K)) {f : Addr} {fd : FuncData} (F : Fun K "_law_generator" "_law_generator" s__law_generator f fd) : FnG P w K mg base CX0 2 f fd ["_law_script", "_law_index"] (spGen K) := by
  refine okG F c__law_generator (fun vs H Q E h => ?_) (fun cdv A outer s H vs Q E gd hr h => ?_)
  · obtain ⟨a, ns, rfl, _⟩ := h
    rfl
  · obtain ⟨a, ns, rfl, hs, k⟩ := h
    have nd := c__law_generator.nd
    have hu := hr.units
    refine ⟨_, (pss_cons (ps_set (i := 2) nd rfl (by first | exact Or.inl rfl | exact Or.inr rfl) (calK g__law_cell gd (hr.mono (by decide)) rfl (pa_cons (pv 0) (pa_cons (pv 1) pa_nil))))
          (pss_one (ps_ret (pe_lst (pa_cons (pe_op oMod (pe_callTy call_int1 (by rfl) T.z_int (by decide +kernel) (pa_cons (pe_callB (call_max2 rfl) (by rfl) T.z_max (by decide +kernel) (pa_cons (pe_op oSub (pv 2) (pe_op oPow pe_int pe_int)) (pa_cons pe_int pa_nil))) pa_nil)) (pe_op oPow (pe_op oPow pe_int pe_int) pe_int)) (pa_cons (pe_op oMod (pe_callTy call_int1 (by rfl) T.z_int (by decide +kernel) (pa_cons (pv 2) pa_nil)) pe_int) (pa_cons (pe_op oMulA pe_int (pv 1)) pa_nil))))))), ?_⟩
    have cc : Ev (tCall (spCell K) [] E0 (tCons (tVar 0) (tCons (tVar 1) tNil))) (start N__law_generator [V.ref a, V.int 0]) H (fun v _ => ∃ i : Int, v = .int i) := fun H1 s1 Q q =>
      ⟨_, rfl, _, rfl, a, ns, rfl, s1.seq hs, fun i H2 s2 => q _ H2 s2 ⟨i, rfl⟩⟩
    refine st_set cc fun x1 H1 s1 ⟨sd, e1⟩ => ?_
    subst e1
    have pw : Ev (tOp (rI CPowB fun i j => V.int (i ^ j.toNat)) (tOp (rI CPowB fun i j => V.int (i ^ j.toNat)) (tC (V.int 10)) (tC (V.int 60))) (tC (V.int 10))) ((start N__law_generator [V.ref a, V.int 0]).set 2 (some (.int sd))) H1 (is (.int (((10 : Int) ^ 60) ^ 10))) :=
      ev_rI (cpow (by decide +kernel)) (ev_rI (cpow (by decide +kernel)) ev_c ev_c) ev_c
    refine st_ret (ev_lstK (evA_k (ev_rI (by decide +kernel) (ev_int (ev_max2 (ev_rI0 (ev_var rfl) (ev_rI (cpow (by decide +kernel)) ev_c ev_c)) ev_c)) pw) (evA_k (ev_rI (by decide) (ev_int (ev_var rfl)) ev_c) (evA_k (ev_mulI (cmul (by decide +kernel) (by decide +kernel)) ev_c (ev_var rfl)) evA_nil))) (by simp)) fun v H2 s2 ⟨b, e, hb, nb⟩ => ?_
    refine k v H2 (s1.trans s2) ⟨_, _, ⟨b, e, hb, s1.free nb⟩, Int.emod_nonneg _ (by decide +kernel), Int.lt_of_lt_of_le (Int.emod_lt_of_pos _ (by decide +kernel)) (by decide +kernel), Int.emod_nonneg _ (by decide), Int.emod_lt_of_pos _ (by decide)⟩
/-- a drawn number below the bound; the list of the generator is changed -/
def spRandom : Sp := fun vs H Q _ => ∃ (g : Addr) (i j : Int), vs = [.ref g, .int (10 ^ 12)] ∧ H g = some (.lst [.int i, .int j, .int 0]) ∧ 0 ≤ i ∧ i < 10 ^ 600 ∧ 0 ≤ j ∧ j < 2147483647 ∧
  ∀ (r : Int) H', (∀ b o, b ≠ g → H b = some o → H' b = some o) → 0 ≤ r → r < 10 ^ 12 → Q (.int r) H'
theorem ok_random (T : Txt P K mg cl) (g__law_hash : Callee P w K mg base 1 "_law_hash" ["_law_seed", "_law_index"] spHash) {f : Addr} {fd : FuncData} (F : Fun K "_law_random" "_law_random" s__law_random f fd) : FnG P w K mg base CX0 2 f fd ["_law_generator_here", "_law_bound"] spRandom := by
  refine okG F c__law_random (fun vs H Q E h => ?_) (fun cdv A outer s H vs Q E gd hr h => ?_)
  · obtain ⟨g, i, j, rfl, _⟩ := h
    rfl
  · obtain ⟨g, i, j, rfl, hg, i0, i1, j0, j1, k⟩ := h
    have nd := c__law_random.nd
    have hu := hr.units
    refine ⟨_, (pss_cons (ps_if (pt_cmpR op_gt (pe_ix (ixK K) (pv 0) pe_int (fun _ _ => rfl)) pe_int (by rfl)) (pss_cons (ps_set (i := 2) nd rfl (by first | exact Or.inl rfl | exact Or.inr rfl) (pe_op oMod (pe_callTy call_int1 (by rfl) T.z_int (by decide +kernel) (pa_cons (pe_ix (ixK K) (pv 0) pe_int (fun _ _ => rfl)) pa_nil)) (pv 1)))
          (pss_cons (ps_asg (pe_op oFdiv (pe_ix (ixK K) (pv 0) pe_int (fun _ _ => rfl)) (pv 1)) (pg_sub (pv 0) pe_int set_list))
          (pss_one (ps_ret (pv 2))))) pss_nil)
          (pss_cons (ps_set (i := 2) nd rfl (by first | exact Or.inl rfl | exact Or.inr rfl) pe_int)
          (pss_cons (ps_for PassesOwn.never rfl (pi_range1 rfl T.z_range (pa_cons (pe_op (oAddK K) pe_int (pe_op oFdiv (pe_bits (pv 1)) pe_int)) pa_nil)) (pg_name (i := 3) nd rfl (by first | exact Or.inl rfl | exact Or.inr rfl)) (pss_cons (ps_asg (pe_op (oAddK K) (pe_ix (ixK K) (pv 0) pe_int (fun _ _ => rfl)) pe_int) (pg_sub (pv 0) pe_int set_list))
          (pss_one (ps_set (i := 2) nd rfl (by first | exact Or.inl rfl | exact Or.inr rfl) (pe_op (oAddK K) (pe_op oMulA (pv 2) pe_int) (calK g__law_hash gd (hr.mono (by decide)) rfl (pa_cons (pe_ix (ixK K) (pv 0) pe_int (fun _ _ => rfl)) (pa_cons (pe_ix (ixK K) (pv 0) pe_int (fun _ _ => rfl)) pa_nil))))))))
          (pss_one (ps_ret (pe_op oMod (pe_callTy call_int1 (by rfl) T.z_int (by decide +kernel) (pa_cons (pv 2) pa_nil)) (pv 1))))))), ?_⟩
    have X : ∀ (σ : St) (H1 : Hp) (x y z : Int) (c : Int) (v : V), σ[0]? = some (some (.ref g)) → H1 g = some (.lst [.int x, .int y, .int z]) → atI [V.int x, V.int y, V.int z] c = some v → Ev (tOp (rIx K) (tVar 0) (tC (V.int c))) σ H1 (is v) :=
      fun σ H1 x y z c v h1 h2 h3 => ev_ixN ((ev_var h1).weak fun x H' s' e => ⟨g, e, s' _ _ h2⟩) ev_c h3
    have off : ∀ {H1 H2 : Hp} {o : HO}, Same H1 H2 → (∀ b o, b ≠ g → H b = some o → H1 b = some o) → ∀ b o', b ≠ g → H b = some o' → upd H2 g o b = some o' := fun {H1 H2 o} s1 h b o' n e => by
      rw [upd_ne n]
      exact s1 _ _ (h b o' n e)
    have t12 : (0 : Int) < 10 ^ 12 := by decide
    refine st_if (evT_cmp (b := decide ((0 : Int) < i)) (ev_rI0 (X _ _ i j 0 0 _ rfl hg rfl) ev_c)) fun b H1 s1 eb => ?_
    have hg1 := s1 _ _ hg
    cases b with
    | true =>
      rw [if_pos rfl]
      refine st_set (ev_rI t12 (ev_int (X _ _ i j 0 0 _ rfl hg1 rfl)) (ev_var rfl)) fun x2 H2 s2 p2 => ?_
      obtain rfl : x2 = _ := p2
      have hg2 := s2 _ _ hg1
      have dv : Ev (tOp (rI CDivW fun i j => V.int (i / j)) (tOp (rIx K) (tVar 0) (tC (V.int 0))) (tVar 1)) [some (V.ref g), some (V.int (10 ^ 12)), some (V.int (i % 10 ^ 12)), none] H2 (is (.int (i / 10 ^ 12))) :=
        ev_rI (by exact ⟨by decide, by decide +kernel⟩) (X _ _ i j 0 0 _ rfl hg2 rfl) (ev_var rfl)
      refine dv H2 (Same.refl _) _ fun x3 H3 s3 p3 => ?_
      have hg3 := s3 _ _ hg2
      refine ⟨_, rfl, g, _, 0, 0, rfl, rfl, hg3, rfl, ?_⟩
      refine ⟨_, rfl, ?_⟩
      exact k _ _ (off ((s1.trans s2).trans s3) fun b o _ e => e) (Int.emod_nonneg _ (by decide)) (Int.emod_lt_of_pos _ t12)
    | false =>
      rw [if_neg Bool.false_ne_true]
      refine st_next ?_
      dsimp only
      refine st_set ev_c fun x2 H2 s2 p2 => ?_
      obtain rfl : x2 = _ := p2
      have hg2 := s2 _ _ hg1
      have rn : EvA (tCons (tOp (rAddA K) (tC (V.int 1)) (tOp (rI CDivW fun i j => V.int (i / j)) (tBits (tVar 1)) (tC (V.int 30)))) tNil) [some (V.ref g), some (V.int (10 ^ 12)), some (V.int 0), none] H2 (fun vs _ => vs = [.int (1 + ((Builtin.Int.intBits (10 ^ 12) : Nat) : Int) / 30)]) :=
        evA_k (ev_addI ev_c (ev_rI (by exact ⟨by decide, by decide +kernel⟩) (ev_bits (ev_var rfl)) ev_c)) evA_nil
      have e2 : (1 + ((Builtin.Int.intBits (10 ^ 12) : Nat) : Int) / 30) = 2 := by decide +kernel
      rw [e2] at rn
      refine st_forR (n := 2) rn (by decide) fun H3 s3 => ?_
      have hg3 := s3 _ _ hg2
      refine ⟨fun n σ' H' => ∃ (d : Int) (t : Option V), σ' = [some (V.ref g), some (V.int (10 ^ 12)), some (V.int d), t] ∧ H' g = some (.lst [.int i, .int j, .int (n : Int)]) ∧ 0 ≤ d ∧ (n = 0 → d = 0) ∧ (n = 1 → d < 10 ^ 10) ∧
        ∀ b o, b ≠ g → H b = some o → H' b = some o, ⟨0, none, rfl, hg3, by decide, fun _ => rfl, fun q => absurd q (by decide), fun b o _ e => ((s1.trans s2).trans s3) _ _ e⟩, fun n σ' H' hn p => ?_, fun σ' H' p => ?_⟩
      · obtain ⟨d, t, rfl, hgn, d0, da, db, kp⟩ := p
        have nn : (n : Int) < 2 := by omega
        have dlt : d < 10 ^ 10 := by
          rcases (by omega : n = 0 ∨ n = 1) with q | q
          · rw [da q]
            decide
          · exact db q
        have ad : Ev (tOp (rAddA K) (tOp (rIx K) (tVar 0) (tC (V.int 2))) (tC (V.int 1))) [some (V.ref g), some (V.int (10 ^ 12)), some (V.int d), some (V.int (0 + (n : Int)))] H' (is (.int ((n : Int) + 1))) :=
          ev_addI (X _ _ i j n 2 _ rfl hgn rfl) ev_c
        refine ad H' (Same.refl _) _ fun x4 H4 s4 p4 => ?_
        obtain rfl : x4 = _ := p4
        have hg4 := s4 _ _ hgn
        refine ⟨_, rfl, g, _, 2, 2, rfl, rfl, hg4, rfl, ?_⟩
        dsimp only
        generalize h5 : upd H4 g (.lst ([V.int i, V.int j, V.int (n : Int)].set 2 (V.int ((n : Int) + 1)))) = H5
        have hg5 : H5 g = some (.lst [.int i, .int j, .int ((n : Int) + 1)]) := by
          rw [← h5]
          exact upd_same
        have kp5 : ∀ b o, b ≠ g → H b = some o → H5 b = some o := by
          rw [← h5]
          exact off s4 kp
        have hs : Ev (tCall spHash [] E0 (tCons (tOp (rIx K) (tVar 0) (tC (V.int 1))) (tCons (tOp (rIx K) (tVar 0) (tC (V.int 2))) tNil))) [some (V.ref g), some (V.int (10 ^ 12)), some (V.int d), some (V.int (0 + (n : Int)))] H5
            (fun v _ => ∃ r : Int, v = .int r ∧ 0 ≤ r ∧ r < 2147483587) := fun H6 s6 Q q =>
          (evA_k (X _ _ i j ((n : Int) + 1) 1 _ rfl hg5 rfl) (evA_k (X _ _ i j ((n : Int) + 1) 2 _ rfl hg5 rfl) evA_nil)) H6 s6 _ fun vs H7 s7 e7 => by
            subst e7
            exact ⟨j, (n : Int) + 1, rfl, j0, j1, by omega, by omega, fun r H8 s8 r0 r1 => q _ H8 (s7.trans s8) ⟨r, rfl, r0, r1⟩⟩
        have sm : Ev (tOp (rAddA K) (tOp rMulA (tVar 2) (tC (V.int 2147483587))) (tCall spHash [] E0 (tCons (tOp (rIx K) (tVar 0) (tC (V.int 1))) (tCons (tOp (rIx K) (tVar 0) (tC (V.int 2))) tNil)))) [some (V.ref g), some (V.int (10 ^ 12)), some (V.int d), some (V.int (0 + (n : Int)))] H5
            (fun v _ => ∃ r : Int, v = .int (d * 2147483587 + r) ∧ 0 ≤ r ∧ r < 2147483587) :=
          ev_op (ev_mulI (cmul (abs_small (by omega) (by omega)) (by decide +kernel)) (ev_var rfl) ev_c) hs mono_is fun x y H6 s6 q1 q2 Q q => by
            obtain rfl : x = _ := q1
            obtain ⟨r, rfl, r0, r1⟩ := q2
            exact .inl ⟨_, _, rfl, rfl, q _ _ (Same.refl _) ⟨r, rfl, r0, r1⟩⟩
        refine sm H5 (Same.refl _) _ fun x6 H6 s6 p6 => ?_
        obtain ⟨r, rfl, r0, r1⟩ := p6
        refine ⟨_, _, rfl, ?_, ?_, fun q => absurd q (by omega), fun q => ?_, fun b o n e => s6 _ _ (kp5 b o n e)⟩
        · rw [s6 _ _ hg5]
          rfl
        · omega
        · rw [da (by omega)]
          omega
      · obtain ⟨d, t, rfl, hgn, d0, da, db, kp⟩ := p
        dsimp only
        refine st_ret (ev_rI t12 (ev_int (ev_var rfl)) (ev_var rfl)) fun v H4 s4 p4 => ?_
        obtain rfl : v = _ := p4
        exact k _ _ (fun b o n e => s4 _ _ (kp b o n e)) (Int.emod_nonneg _ (by decide)) (Int.emod_lt_of_pos _ t12)
end
end L2.Hx

/-! #### R6 -/
set_option Elab.async false
set_option linter.all false
set_option maxRecDepth 100000
set_option maxHeartbeats 4000000
namespace L2.Hx
open PySem PySem.Spec PyProof.Rows
/-! the given values, and the law's loop over them -/
def Ty (H : Hp) (x : V) (n : String) : Prop := match x with
  | .non => n = "NoneType"
  | .bl _ => n = "bool"
  | .int _ => n = "int"
  | .str _ => n = "str"
  | .ref a => (n = "list" ∧ ∃ xs, H a = some (.lst xs)) ∨ (n = "tuple" ∧ ∃ xs, H a = some (.tup xs)) ∨ (n = "dict" ∧ ∃ k, H a = some (.dK k))
  | _ => False
theorem Ty.grow {H H' : Hp} {x : V} {n : String} (s : Same H H') (h : Ty H x n) : Ty H' x n := by
  cases x <;> try exact h
  rcases h with ⟨e, xs, h⟩ | ⟨e, xs, h⟩ | ⟨e, xs, h⟩
  · exact .inl ⟨e, xs, s _ _ h⟩
  · exact .inr (.inl ⟨e, xs, s _ _ h⟩)
  · exact .inr (.inr ⟨e, xs, s _ _ h⟩)
theorem Ty.x {K : PySem.W.Frag} {H : Hp} {x : V} {n : String} (h : Ty H x n) : TyX K H x (.type n) := by
  cases x with
  | non => cases (show n = _ from h); exact .base .non
  | bl b => cases (show n = _ from h); exact .base (.bl b)
  | int i => cases (show n = _ from h); exact .base (.int i)
  | str y => cases (show n = _ from h); exact .base (.str y)
  | ref a =>
    rcases h with ⟨e, xs, h⟩ | ⟨e, xs, h⟩ | ⟨e, xs, h⟩
    · subst e; exact .base (.lst h)
    · subst e; exact .base (.tup h)
    · subst e; exact .base (.dK h)
  | _ => exact absurd h (fun z => z)
section
variable {K : PySem.W.Frag} {σ : St} {H : Hp}
theorem ev_isT {k : Nat} {x : V} {n c : String} {b : Bool} (hv : σ[k]? = some (some x)) (h : Ty H x n) (hk : PySem.W.kitOne K (.type n) (.type c) = some b) :
    Ev (tCB (rIsA K) (tCons (tVar k) (tCons (tC (.ty c)) tNil))) σ H (is (.bl b)) :=
  ev_cb (evA_k (ev_var hv) (evA_k ev_c evA_nil)) fun vs H' s e Q q => .inl ⟨x, .ty c, .type n, .type c, b, e, .ty c, (h.grow s).x, hk, q _ _ (Same.refl _) rfl⟩
end
/-- a value of which the law's loop may make errors -/
def ItN (K : PySem.W.Frag) (H : Hp) (v : V) : Prop := ∃ d n, Dq K H v d ∧ Small d ∧ Ty H v n ∧ (n = "NoneType" ∨ n = "bool" ∨ n = "int" ∨ n = "str" ∨ n = "tuple")
def ItL (K : PySem.W.Frag) (H : Hp) (v : V) : Prop := ∃ b xs ds, v = .ref b ∧ H b = some (.lst xs) ∧ b ≠ sysModules ∧ xs.length ≤ 10 ∧ (∀ H', DqAll K H' xs ds) ∧ Small (.list ds) ∧ Small (.list (ds ++ [.str "more"]))
abbrev dOf (kvs : List (Key × V)) (ds : List PyData) : PyData := .dict ((kvs.map fun p => kD p.1).zip ds)
abbrev kMore : Key := .inr "more"
def ItD (K : PySem.W.Frag) (H : Hp) (v : V) : Prop := ∃ b kvs ds, v = .ref b ∧ H b = some (.dK kvs) ∧ kvs.length ≤ 10 ∧ (∀ H', (∀ a o, a ≠ b → H a = some o → H' a = some o) → DqAll K H' (kvs.map (·.2)) ds) ∧
  (∀ y, putK kvs kMore y = kvs ++ [(kMore, y)]) ∧ Small (dOf kvs ds) ∧ ∀ y, Small (dOf (kvs ++ [(kMore, y)]) (ds ++ [.list [.int 1]]))
def It1 (K : PySem.W.Frag) (H : Hp) (v : V) : Prop := ItN K H v ∨ ItL K H v ∨ ItD K H v
theorem It1.grow {K : PySem.W.Frag} {H H' : Hp} {v : V} (s : Same H H') (h : It1 K H v) : It1 K H' v := by
  rcases h with ⟨d, n, h1, h2, h3, h4⟩ | ⟨b, xs, ds, h1, h2, h3⟩ | ⟨b, kvs, ds, h1, h2, h3, h4, h5⟩
  · exact .inl ⟨d, n, h1.grow s, h2, h3.grow s, h4⟩
  · exact .inr (.inl ⟨b, xs, ds, h1, s _ _ h2, h3⟩)
  · exact .inr (.inr ⟨b, kvs, ds, h1, s _ _ h2, h3, fun H'' q => h4 H'' fun a o n e => q a o n (s _ _ e), h5⟩)
theorem It1.data {K : PySem.W.Frag} {H : Hp} {v : V} (h : It1 K H v) : ∃ d, Dq K H v d ∧ Small d := by
  rcases h with ⟨d, n, h1, h2, h3, h4⟩ | ⟨b, xs, ds, rfl, h2, h3, h4, h5, h6, h7⟩ | ⟨b, kvs, ds, rfl, h2, h3, h4, h5, h6, h7⟩
  · exact ⟨d, h1, h2⟩
  · exact ⟨_, .lst h2 h3 (h5 H), h6⟩
  · exact ⟨_, .dct h2 (h4 H fun _ _ _ e => e), h6⟩
theorem DqAll.app {K : PySem.W.Frag} {H : Hp} : ∀ {vs ws : List V} {ds es : List PyData}, DqAll K H vs ds → DqAll K H ws es → DqAll K H (vs ++ ws) (ds ++ es)
  | _, _, _, _, .nil, q => q
  | _, _, _, _, .cons h t, q => .cons h (DqAll.app t q)
theorem exo_dk {e C : Addr} {d : Option Addr} {xs : List (Key × V)} : exo e C d ≠ .dK xs := fun z => by
  have z' : HO.ext _ = HO.dK xs := z
  cases z'
theorem exd_dk {e : Addr} {fs : List (Str × V)} {xs : List (Key × V)} : exd e fs ≠ .dK xs := fun z => by
  have z' : HO.ext _ = HO.dK xs := z
  cases z'
/-- no exception's object stands at b -/
def NoEx (H : Hp) (b : Addr) : Prop := (∃ xs, H b = some (.lst xs)) ∨ ∃ ks, H b = some (.dK ks)
theorem NoEx.ne {H : Hp} {b e C : Addr} {d : Option Addr} (h : NoEx H b) (he : H e = some (exo e C d)) : e ≠ b := fun z => by
  subst z
  rcases h with ⟨xs, h⟩ | ⟨ks, h⟩
  · rw [h] at he
    exact exo_lst (Option.some.inj he).symm
  · rw [h] at he
    exact exo_dk (Option.some.inj he).symm
theorem NoEx.ned {H : Hp} {b d : Addr} {fs : List (Str × V)} (h : NoEx H b) (he : H d = some (exd d fs)) : d ≠ b := fun z => by
  subst z
  rcases h with ⟨xs, h⟩ | ⟨ks, h⟩
  · rw [h] at he
    exact exd_lst (Option.some.inj he).symm
  · rw [h] at he
    exact exd_dk (Option.some.inj he).symm
theorem EE.off {cl : Nat → Addr} {g : V} {H H' : Hp} {b : Addr} (nb : NoEx H b) (s : ∀ a o, a ≠ b → H a = some o → H' a = some o) {k : Nat} {x : V} (h : EE cl g H k x) : EE cl g H' k x := by
  obtain ⟨e, r, d, h1, h2⟩ := h
  exact ⟨e, r, d, s _ _ (nb.ne h1) h1, s _ _ (nb.ned h2) h2⟩
/-! ### the pieces of the loop's body -/
abbrev rightT (K : PySem.W.Frag) (cl : Nat → Addr) (i : Nat) : TE := tCall (spRight K cl) [] E0 (tCons (tVar i) (tCons (tVar 3) tNil))
abbrev ifRight (K : PySem.W.Frag) (cl : Nat → Addr) : TS := tIfS (tOr (tNot (tTru K (rightT K cl 4))) (tNot (tTru K (rightT K cl 5)))) (tRet (tC (V.bl false))) tNext
abbrev parT (cl : Nat → Addr) : TS := tPar 4 5 (tCons (tCall (spPlaced cl) [] E0 (tCons (tVar 3) tNil)) (tCons (tCall (spPlaced cl) [] E0 (tCons (tVar 3) tNil)) tNil))
abbrev ifList (K : PySem.W.Frag) : TS := tIfS (tTru K (tCB (rIsA K) (tCons (tVar 3) (tCons (tC (V.ty "list")) tNil)))) (tDrop (tBM K "list" rAppend (tVar 3) (tCons (tC (V.str (Str.ofString "more"))) tNil))) tNext
abbrev ifDict (K : PySem.W.Frag) : TS := tIfS (tTru K (tCB (rIsA K) (tCons (tVar 3) (tCons (tC (V.ty "dict")) tNil)))) (tAsg (tLstS (tCons (tC (V.int 1)) tNil)) (gSub (tVar 3) (tC (V.str (Str.ofString "more"))) rSetD)) tNext
abbrev bodyT (K : PySem.W.Frag) (cl : Nat → Addr) : TS := tSeq (parT cl) (tSeq (ifRight K cl) (tSeq (ifList K) (tSeq (ifDict K) (ifRight K cl))))
section
variable {K : PySem.W.Frag} {cl : Nat → Addr} {σ : St} {H : Hp} {x g : V} {D : Ends}
theorem ev_right {ta tb : TE} {l : Addr} {es : List V} {d : PyData} (h1 : Ev ta σ H (is (.ref l))) (h3 : Ev tb σ H (is x)) (hl : H l = some (.lst es)) (hp : Paired (EE cl x H) k11 es) (hd : Dq K H x d) (sm : Small d) :
    Ev (tCall (spRight K cl) [] E0 (tCons ta (tCons tb tNil))) σ H (is (.bl true)) := fun H1 s Q q =>
  (evA_k h1 (evA_k h3 evA_nil)) H1 s _ fun vs H2 s2 e => by
    subst e
    have s' := s.trans s2
    exact ⟨l, es, x, d, rfl, s' _ _ hl, Paired.mapP hp fun _ _ q => q.grow s', hd.grow s', sm, fun H3 s3 => q _ H3 (s2.trans s3) rfl⟩
def Errs (cl : Nat → Addr) (g : V) (H : Hp) (l : Addr) : Prop := ∃ es, H l = some (.lst es) ∧ Paired (EE cl g H) k11 es
theorem Errs.grow {H' : Hp} {l : Addr} (s : Same H H') (h : Errs cl g H l) : Errs cl g H' l := by
  obtain ⟨es, h1, h2⟩ := h
  exact ⟨es, s _ _ h1, Paired.mapP h2 fun _ _ q => q.grow s⟩
theorem Errs.off {H' : Hp} {l b : Addr} (nb : NoEx H b) (n : l ≠ b) (s : ∀ a o, a ≠ b → H a = some o → H' a = some o) (h : Errs cl g H l) : Errs cl g H' l := by
  obtain ⟨es, h1, h2⟩ := h
  exact ⟨es, s _ _ n h1, Paired.mapP h2 fun _ _ q => q.off nb s⟩
theorem ifRight_ok {l1 l2 : Addr} {d : PyData} (h3 : σ[3]? = some (some x)) (h4 : σ[4]? = some (some (.ref l1))) (h5 : σ[5]? = some (some (.ref l2))) (e1 : Errs cl x H l1) (e2 : Errs cl x H l2) (hd : Dq K H x d) (sm : Small d)
    (k : ∀ H', Same H H' → D.nx σ H') : ifRight K cl D σ H := by
  obtain ⟨es1, a1, p1⟩ := e1
  obtain ⟨es2, a2, p2⟩ := e2
  refine st_if (evT_or (evT_not (evT_tru' (ev_right (ev_var h4) (ev_var h3) a1 p1 hd sm))) (evT_not (evT_tru' (ev_right (ev_var h5) (ev_var h3) a2 p2 hd sm)))) fun b H1 s1 eb => ?_
  subst eb
  exact k H1 s1
theorem st_par {i j : Nat} {ta : TA} {u : TS} {R : List V → Hp → Prop} (h : EvA ta σ H R) (k : ∀ vs H', Same H H' → R vs H' → ∃ v w, vs = [v, w] ∧ u D ((σ.set i (some v)).set j (some w)) H') : tSeq (tPar i j ta) u D σ H := h H (Same.refl H) _ fun vs H1 s r => k vs H1 s r
theorem body_ok {a m el : V} {t4 t5 : Option V} (h : It1 K H x)
    (k : ∀ v4 v5 H', (∀ b o, x ≠ .ref b → H b = some o → H' b = some o) → D.nx [some a, some m, some el, some x, some v4, some v5] H') : bodyT K cl D [some a, some m, some el, some x, t4, t5] H := by
  have P : ∀ (σ : St) (H1 : Hp), Same H H1 → σ[3]? = some (some x) → Ev (tCall (spPlaced cl) [] E0 (tCons (tVar 3) tNil)) σ H1 (NewE H cl k11 x) := fun σ H1 s1 hv H2 s2 Q q =>
    ⟨x, hv, x, rfl, fun v H3 s3 ⟨l, es, e, q1, q2, q3⟩ => q v H3 s3 ⟨l, es, e, q1, (s1.trans s2).free q2, q3⟩⟩
  refine st_par (evA_cons (P [some a, some m, some el, some x, t4, t5] H (Same.refl _) rfl) (evA_cons (P [some a, some m, some el, some x, t4, t5] H (Same.refl _) rfl) evA_nil mono_newE) mono_newE) fun vs H1 s1 ev => ?_
  obtain ⟨v4, r, rfl, p1, v5, r2, rfl, p2, rfl⟩ := ev
  refine ⟨v4, v5, rfl, ?_⟩
  obtain ⟨l1, es1, rfl, a1, n1, q1⟩ := p1
  obtain ⟨l2, es2, rfl, a2, n2, q2⟩ := p2
  have e1 : Errs cl x H1 l1 := ⟨es1, a1, q1⟩
  have e2 : Errs cl x H1 l2 := ⟨es2, a2, q2⟩
  have I := h.grow s1
  obtain ⟨d, dq, sm⟩ := I.data
  refine ifRight_ok rfl rfl rfl e1 e2 dq sm fun H2 s2 => ?_
  have I := I.grow s2
  have e1 := e1.grow s2
  have e2 := e2.grow s2
  have s02 := s1.trans s2
  rcases h with ⟨d, n, h1, h2, h3, h4⟩ | ⟨b, xs, ds, rfl, h2, h3, h4, h5, h6, h7⟩ | ⟨b, kvs, ds, rfl, h2, h3, h4, h5, h6, h7⟩
  · have ty := h3.grow s02
    have kl : PySem.W.kitOne K (.type n) (.type "list") = some false := by
      rcases h4 with rfl | rfl | rfl | rfl | rfl <;> rfl
    have kd : PySem.W.kitOne K (.type n) (.type "dict") = some false := by
      rcases h4 with rfl | rfl | rfl | rfl | rfl <;> rfl
    refine st_if (evT_tru' (ev_isT rfl ty kl)) fun c H3 s3 ec => ?_
    subst ec
    refine st_if (evT_tru' (ev_isT rfl (ty.grow s3) kd)) fun c H4 s4 ec => ?_
    subst ec
    have s34 := s3.trans s4
    refine ifRight_ok rfl rfl rfl (e1.grow s34) (e2.grow s34) (h1.grow (s02.trans s34)) h2 fun H5 s5 => ?_
    exact k _ _ H5 fun b o _ e => s5 _ _ (s34 _ _ (s02 _ _ e))
  · have ty : Ty H2 (.ref b) "list" := .inl ⟨rfl, xs, s02 _ _ h2⟩
    refine st_if (evT_tru' (ev_isT (b := true) rfl ty rfl)) fun c H3 s3 ec => ?_
    subst ec
    have hb3 := s3 _ _ (s02 _ _ h2)
    refine ⟨_, rfl, .inl ⟨rfl, xs, SqL.of hb3⟩, b, xs, _, rfl, rfl, hb3, by rw [sizeLine_eq]; omega, ?_⟩
    have of : ∀ a o, a ≠ b → H3 a = some o → upd H3 b (.lst (xs ++ [V.str (Str.ofString "more")])) a = some o := fun a o n e => by
      rw [upd_ne n]
      exact e
    have nb : NoEx H3 b := .inl ⟨xs, hb3⟩
    have m1 : l1 ≠ b := fun z => by
      rw [z, h2] at n1
      cases n1
    have m2 : l2 ≠ b := fun z => by
      rw [z, h2] at n2
      cases n2
    generalize h5e : upd H3 b (.lst (xs ++ [V.str (Str.ofString "more")])) = H4 at of ⊢
    have hb4 : H4 b = some (.lst (xs ++ [V.str (Str.ofString "more")])) := by
      rw [← h5e]
      exact upd_same
    have ty4 : Ty H4 (.ref b) "list" := .inl ⟨rfl, _, hb4⟩
    refine st_if (evT_tru' (ev_isT (b := false) rfl ty4 rfl)) fun c H5 s5 ec => ?_
    subst ec
    refine ifRight_ok rfl rfl rfl (((e1.grow s3).off nb m1 of).grow s5) (((e2.grow s3).off nb m2 of).grow s5) (.lst (s5 _ _ hb4) h3 (DqAll.app (h5 _) (.cons (.str _) .nil))) h7 fun H6 s6 => ?_
    refine k _ _ H6 fun a o n e => s6 _ _ (s5 _ _ (of a o (fun z => n (by rw [z])) (s3 _ _ (s02 _ _ e))))
  · have ty : Ty H2 (.ref b) "dict" := .inr (.inr ⟨rfl, kvs, s02 _ _ h2⟩)
    refine st_if (evT_tru' (ev_isT (b := false) rfl ty rfl)) fun c H3 s3 ec => ?_
    subst ec
    refine st_if (evT_tru' (ev_isT (b := true) rfl (ty.grow s3) rfl)) fun c H4 s4 ec => ?_
    subst ec
    have hb4 := s4 _ _ (s3 _ _ (s02 _ _ h2))
    rw [if_pos rfl]
    refine ⟨by show 1 ≤ sizeLine; rw [sizeLine_eq]; omega, fun p hp np => ?_⟩
    have nbp : b ≠ p := ne_of_none hb4 hp
    have hb5 : upd H4 p (.lst [.int 1]) b = some (.dK kvs) := by
      rw [upd_ne nbp]
      exact hb4
    refine ⟨_, rfl, b, _, rfl, DPut.k (k := kMore) hb5 (by rw [sizeLine_eq]; omega), ?_⟩
    rw [h5]
    have of : ∀ a o, a ≠ b → H4 a = some o → upd (upd H4 p (.lst [.int 1])) b (.dK (kvs ++ [(kMore, V.ref p)])) a = some o := fun a o n e => by
      rw [upd_ne n, upd_ne (ne_of_none e hp)]
      exact e
    have nb : NoEx H4 b := .inr ⟨kvs, hb4⟩
    have m1 : l1 ≠ b := fun z => by
      rw [z, h2] at n1
      cases n1
    have m2 : l2 ≠ b := fun z => by
      rw [z, h2] at n2
      cases n2
    generalize h6e : upd (upd H4 p (.lst [.int 1])) b (.dK (kvs ++ [(kMore, V.ref p)])) = H6 at of ⊢
    have hb6 : H6 b = some (.dK (kvs ++ [(kMore, V.ref p)])) := by
      rw [← h6e]
      exact upd_same
    have hp6 : H6 p = some (.lst [.int 1]) := by
      rw [← h6e, upd_ne nbp.symm]
      exact upd_same
    have s34 := s3.trans s4
    have dq6 : DqAll K H6 ((kvs ++ [(kMore, V.ref p)]).map (·.2)) (ds ++ [.list [.int 1]]) := by
      rw [List.map_append]
      exact DqAll.app (h4 H6 fun a o n e => of a o n (s34 _ _ (s02 _ _ e))) (.cons (.lst hp6 np (.cons (.int 1) .nil)) .nil)
    refine ifRight_ok rfl rfl rfl ((e1.grow s34).off nb m1 of) ((e2.grow s34).off nb m2 of) (.dct hb6 dq6) (h7 _) fun H7 s7 => ?_
    refine k _ _ H7 fun a o n e => s7 _ _ (of a o (fun z => n (by rw [z])) (s34 _ _ (s02 _ _ e)))
end
end L2.Hx

/-! #### R7 -/
set_option Elab.async false
set_option linter.all false
set_option maxRecDepth 100000
set_option maxHeartbeats 4000000
namespace L2.Hx
open PySem PySem.Spec PyProof.Rows
/-! the display of the given values -/
/-- values made from the left, each of what was free when it was begun -/
inductive Chain (K : PySem.W.Frag) : Hp → List V → Hp → Prop
  | nil {H1 H2 : Hp} : Same H1 H2 → Chain K H1 [] H2
  | cons {H1 Hm H2 : Hp} {v : V} {vs : List V} : Same H1 Hm → (∀ H', (∀ b o, H1 b = none → Hm b = some o → H' b = some o) → It1 K H' v) → (∀ b, v = .ref b → H1 b = none ∧ ∃ o, Hm b = some o) →
      Chain K Hm vs H2 → Chain K H1 (v :: vs) H2
theorem Chain.same {K : PySem.W.Frag} : ∀ {vs : List V} {H1 H2 : Hp}, Chain K H1 vs H2 → Same H1 H2
  | _, _, _, .nil s => s
  | _, _, _, .cons s _ _ t => s.trans t.same
theorem Chain.fresh {K : PySem.W.Frag} : ∀ {vs : List V} {H1 H2 : Hp}, Chain K H1 vs H2 → ∀ (i : Nat) (b : Addr), vs[i]? = some (.ref b) → H1 b = none ∧ ∃ o, H2 b = some o
  | _, _, _, .nil s, i, b, h => by simp at h
  | _, _, _, .cons s _ r t, 0, b, h => by
    simp at h
    obtain ⟨q, o, e⟩ := r b h
    exact ⟨q, o, t.same _ _ e⟩
  | _, _, _, .cons s _ r t, i + 1, b, h => by
    simp at h
    obtain ⟨q, e⟩ := t.fresh i b h
    exact ⟨s.free q, e⟩
theorem Chain.at {K : PySem.W.Frag} : ∀ {vs : List V} {H1 H2 : Hp}, Chain K H1 vs H2 → ∀ (i : Nat) (x : V), vs[i]? = some x → ∀ H' : Hp,
    (∀ b o, H1 b = none → H2 b = some o → (∀ j y, j < i → vs[j]? = some y → y ≠ .ref b) → H' b = some o) → It1 K H' x
  | _, _, _, .nil s, i, x, h, _, _ => by simp at h
  | _, _, _, .cons s I r t, 0, x, h, H', f => by
    simp at h
    subst h
    exact I H' fun b o n e => f b o n (t.same _ _ e) fun j y hj => absurd hj (by omega)
  | _, _, _, .cons (v := v) s I r t, i + 1, x, h, H', f => by
    simp at h
    refine t.at i x h H' fun b o n e q => f b o (s.free n) e fun j y hj hy => ?_
    cases j with
    | zero =>
      simp at hy
      subst hy
      intro z
      obtain ⟨_, o', e'⟩ := r b z
      rw [n] at e'
      cases e'
    | succ j =>
      simp at hy
      exact q j y (by omega) hy
/-- an expression that makes one such value; a row of them -/
def EvF (K : PySem.W.Frag) (te : TE) (σ : St) : Prop := ∀ H1 (Q : VK), (∀ v Hm, Same H1 Hm → (∀ H', (∀ b o, H1 b = none → Hm b = some o → H' b = some o) → It1 K H' v) → (∀ b, v = .ref b → H1 b = none ∧ ∃ o, Hm b = some o) → Q v Hm) → te σ H1 Q
def EvC (K : PySem.W.Frag) (ta : TA) (σ : St) (n : Nat) : Prop := ∀ H1 (Q : List V → Hp → Prop), (∀ vs H2, Chain K H1 vs H2 → vs.length = n → Q vs H2) → ta σ H1 Q
section
variable {K : PySem.W.Frag} {σ : St} {te : TE} {ta : TA} {n : Nat}
theorem evC_nil : EvC K tNil σ 0 := fun H1 Q q => q [] H1 (.nil (Same.refl _)) rfl
theorem evC_cons (h : EvF K te σ) (t : EvC K ta σ n) : EvC K (tCons te ta) σ (n + 1) := fun H1 Q q => h H1 _ fun v Hm s I r => t Hm _ fun vs H2 c e => q (v :: vs) H2 (.cons s I r c) (by simp [e])
theorem evF_s {v : V} {d : PyData} {nm : String} (h : ∀ H, Ev te σ H (is v)) (hd : ∀ H, Dq K H v d) (sm : Small d) (ty : ∀ H, Ty H v nm) (hn : nm = "NoneType" ∨ nm = "bool" ∨ nm = "int" ∨ nm = "str" ∨ nm = "tuple") (nr : ∀ b, v ≠ .ref b) : EvF K te σ :=
  fun H1 Q q => h H1 H1 (Same.refl _) _ fun x Hm s e => by
    obtain rfl : x = v := e
    exact q x Hm s (fun H' _ => .inl ⟨d, nm, hd H', sm, ty H', hn⟩) fun b e => absurd e (nr b)
set_option exponentiation.threshold 5000 in
theorem small_int {i : Int} (h0 : -(10 ^ 30) < i) (h1 : i < 10 ^ 30) : Small (.int i) := by
  refine ⟨?_, by simp [PyData.depth], by simp [sz]⟩
  have h : i.natAbs < 2 ^ 1920 := Nat.lt_trans (by omega) (show (10 : Nat) ^ 30 < 2 ^ 1920 by decide +kernel)
  simp only [PyData.showable, decide_eq_true_eq]
  by_cases e : i.natAbs = 0
  · rw [e]
    decide
  · exact (Nat.log2_lt e).mpr h
theorem evF_int {i : Int} (h : ∀ H, Ev te σ H (is (.int i))) (h0 : -(10 ^ 30) < i) (h1 : i < 10 ^ 30) : EvF K te σ :=
  evF_s h (fun _ => .int i) (small_int h0 h1) (fun _ => (rfl : "int" = "int")) (by simp) (fun _ z => nomatch z)
theorem evF_str {x : Str} (h : ∀ H, Ev te σ H (is (.str x))) (hz : (reprText x).length ≤ 100000) : EvF K te σ :=
  evF_s h (fun _ => .str x) ⟨rfl, by simp [PyData.depth], by simpa [sz] using hz⟩ (fun _ => (rfl : "str" = "str")) (by simp) (fun _ z => nomatch z)
/-- a tuple of values that are no objects -/
theorem evF_tup {vs : List V} {ds : List PyData} (h : ∀ H, EvA ta σ H (fun ws _ => ws = vs)) (hz : vs.length ≤ 1000) (hd : ∀ H, DqAll K H vs ds) (sm : Small (.tuple ds)) : EvF K (tTup ta) σ := fun H1 Q q =>
  h H1 H1 (Same.refl _) _ fun ws Hm s e => by
    subst e
    refine ⟨Nat.le_trans hz (by rw [sizeLine_eq]; omega), fun p hp => q _ _ (Same.grow s hp) (fun H' f => .inl ⟨.tuple ds, "tuple", ?_, sm, ?_, by simp⟩) fun b e => ?_⟩
    · exact .tup (.inl (.inl (f p _ (s.free hp) upd_same))) (hd H')
    · exact .inr (.inl ⟨rfl, _, f p _ (s.free hp) upd_same⟩)
    · cases e
      exact ⟨s.free hp, _, upd_same⟩
/-- a new list of values that are no objects -/
theorem evF_lst {vs : List V} {ds : List PyData} (h : ∀ H, EvA ta σ H (fun ws _ => ws = vs)) (hz : vs.length ≤ 10) (hd : ∀ H, DqAll K H vs ds) (sm : Small (.list ds)) (sm2 : Small (.list (ds ++ [.str "more"]))) : EvF K (tLstS ta) σ := fun H1 Q q =>
  h H1 H1 (Same.refl _) _ fun ws Hm s e => by
    subst e
    refine ⟨Nat.le_trans hz (by rw [sizeLine_eq]; omega), fun p hp np => q _ _ (Same.grow s hp) (fun H' f => .inr (.inl ⟨p, ws, ds, rfl, f p _ (s.free hp) upd_same, np, hz, hd, sm, sm2⟩)) fun b e => ?_⟩
    cases e
    exact ⟨s.free hp, _, upd_same⟩
theorem small_kv0 {x : Str} (hx : (reprText x).length ≤ 100) {i : Int} (h0 : -(10 ^ 30) < i) (h1 : i < 10 ^ 30) : Small (.dict [(.str x, .list [.int i])]) := by
  obtain ⟨s1, _, _⟩ := small_int h0 h1
  refine ⟨?_, ?_, ?_⟩
  · simp only [PyData.showable, PyData.showableKv, PyData.showableAll] at s1 ⊢
    simp [s1]
  · simp [PyData.depth, PyData.depthKv, PyData.depthAll]
  · simp only [sz, szKv, szAll]
    omega
theorem small_kv2 {x y : Str} (hx : (reprText x).length ≤ 100) (hy : (reprText y).length ≤ 100) {i j : Int} (h0 : -(10 ^ 30) < i) (h1 : i < 10 ^ 30) (h2 : -(10 ^ 30) < j) (h3 : j < 10 ^ 30) : Small (.dict [(.str x, .list [.int i]), (.str y, .list [.int j])]) := by
  obtain ⟨s1, _, _⟩ := small_int h0 h1
  obtain ⟨s2, _, _⟩ := small_int h2 h3
  refine ⟨?_, ?_, ?_⟩
  · simp only [PyData.showable, PyData.showableKv, PyData.showableAll] at s1 s2 ⊢
    simp [s1, s2]
  · simp [PyData.depth, PyData.depthKv, PyData.depthAll]
  · simp only [sz, szKv, szAll]
    omega
theorem small_d1 : Small (dOf [] []) ∧ ∀ y : V, Small (dOf ([] ++ [(kMore, y)]) ([] ++ [.list [.int 1]])) :=
  ⟨⟨by decide +kernel, by decide +kernel, by decide +kernel⟩, fun _ => small_kv0 (x := "more") (by decide +kernel) (by decide) (by decide)⟩
abbrev kA : Key := .inr "a"
theorem small_d2 {m : Int} (h0 : -(10 ^ 30) < m) (h1 : m < 10 ^ 30) (c : V) : Small (dOf [(kA, c)] [.list [.int m]]) ∧ ∀ y : V, Small (dOf ([(kA, c)] ++ [(kMore, y)]) ([.list [.int m]] ++ [.list [.int 1]])) :=
  ⟨small_kv0 (x := "a") (by decide +kernel) h0 h1, fun _ => small_kv2 (x := "a") (y := "more") (by decide +kernel) (by decide +kernel) h0 h1 (by decide) (by decide)⟩
theorem evF_dnew : EvF K tDNewK σ := fun H1 Q q p hp => q _ _ (Same.grow (Same.refl _) hp)
  (fun H' f => .inr (.inr ⟨p, [], [], rfl, f p _ hp upd_same, by decide, fun _ _ => .nil, fun y => rfl, small_d1.1, small_d1.2⟩)) fun b e => by
    cases e
    exact ⟨hp, _, upd_same⟩
theorem pairs1 {c : V} {tv : TE} {H : Hp} {Q : List (V × V) → Hp → Prop} (h : tv σ H fun y H2 => Q [(c, y)] H2) : tPairs [(tC c, tv)] σ H Q := h
theorem lstS_ok {vs : List V} {H : Hp} {Q : VK} (h : EvA ta σ H (fun ws _ => ws = vs)) (hz : vs.length ≤ 1000) (k : ∀ Hm p, Same H Hm → Hm p = none → p ≠ sysModules → Q (.ref p) (upd Hm p (.lst vs))) : tLstS ta σ H Q :=
  h H (Same.refl _) _ fun ws Hm s e => by
    subst e
    exact ⟨Nat.le_trans hz (by rw [sizeLine_eq]; omega), fun p hp np => k Hm p s hp np⟩
theorem evF_disp {m : Int} (h : ∀ H, Ev te σ H (is (.int m))) (h0 : -(10 ^ 30) < m) (h1 : m < 10 ^ 30) : EvF K (tDisp [(tC (V.str (Str.ofString "a")), tLstS (tCons te tNil))]) σ := fun H1 Q q p hp => by
  refine pairs1 (lstS_ok (evA_k (h _) evA_nil) (by simp) fun Hm c s hc nc => ?_)
  have hpm := s p _ upd_same
  have ncp : p ≠ c := ne_of_none hpm hc
  refine ⟨by rw [upd_ne ncp]; exact hpm, [(kA, .ref c)], rfl, by simp, ?_⟩
  have z : mergeK [] [(kA, V.ref c)] = [(kA, V.ref c)] := rfl
  rw [z]
  have hc1 : H1 c = none := by
    have h2 := s.free hc
    rw [upd_ne ncp.symm] at h2
    exact h2
  have hcc : upd (upd Hm c (.lst [.int m])) p (.dK [(kA, V.ref c)]) c = some (.lst [.int m]) := by
    rw [upd_ne ncp.symm]
    exact upd_same
  refine q _ _ (fun b o e => ?_) (fun H' f => .inr (.inr ⟨p, [(kA, .ref c)], [.list [.int m]], rfl, f p _ hp upd_same, by simp, fun H'' k => ?_, fun y => rfl, (small_d2 h0 h1 _).1, (small_d2 h0 h1 _).2⟩)) fun b e => ?_
  · have nb : b ≠ p := ne_of_none e hp
    rw [upd_ne nb]
    have e2 : Hm b = some o := s b o (by rw [upd_ne nb]; exact e)
    rw [upd_ne (ne_of_none e2 hc)]
    exact e2
  · exact .cons (.lst (k c _ ncp.symm (f c _ hc1 hcc)) nc (.cons (.int m) .nil)) .nil
  · cases e
    exact ⟨hp, _, upd_same⟩
/-- ("say", "main", (0,)) -/
theorem evF_say : EvF K (tTup (tCons (tC (V.str (Str.ofString "say"))) (tCons (tC (V.str (Str.ofString "main"))) (tCons (tTup (tCons (tC (V.int 0)) tNil)) tNil)))) σ := fun H1 Q q => by
  refine ⟨by show 1 ≤ sizeLine; rw [sizeLine_eq]; omega, fun c hc => ⟨by show 3 ≤ sizeLine; rw [sizeLine_eq]; omega, fun p hp => ?_⟩⟩
  have ncp : c ≠ p := fun z => by
    rw [← z, upd_same] at hp
    cases hp
  have hp1 : H1 p = none := by
    rw [upd_ne ncp.symm] at hp
    exact hp
  refine q _ _ (Same.grow (Same.grow (Same.refl _) hc) hp) (fun H' f => .inl ⟨.tuple [.str "say", .str "main", .tuple [.int 0]], "tuple", ?_, ⟨by decide +kernel, by decide +kernel, by decide +kernel⟩, ?_, by simp⟩) fun b e => ?_
  · refine .tup (.inl (.inl (f p _ hp1 upd_same))) (.cons (.str _) (.cons (.str _) (.cons (.tup (.inl (.inl (f c _ hc ?_))) (.cons (.int 0) .nil)) .nil)))
    rw [upd_ne ncp]
    exact upd_same
  · exact .inr (.inl ⟨rfl, _, f p _ hp1 upd_same⟩)
  · cases e
    exact ⟨hp1, _, upd_same⟩
end
end L2.Hx

/-! #### R5 -/
set_option Elab.async false
set_option linter.all false
set_option maxRecDepth 100000
set_option maxHeartbeats 4000000
namespace L2.Hx
open PySem PySem.Spec PyProof.Rows
/-! ### law -/
section
variable {K : PySem.W.Frag} {σ : St} {H : Hp} {te ta tb : TE} {t : TA} {D : Ends} {u : TS} {cl : Nat → Addr} {g : V}
theorem st_set0 {i : Nat} (h : te σ H fun x H' => u D (σ.set i (some x)) H') : tSeq (tAsg te (gName i)) u D σ H := h
theorem call_ok {sp : Sp} {R : List V → Hp → Prop} {Q : VK} (h : EvA t σ H R) (k : ∀ vs H', Same H H' → R vs H' → sp (vs ++ []) H' Q E0) : tCall sp [] E0 t σ H Q := h H (Same.refl _) _ fun vs H1 s r => k vs H1 s r
theorem lstS_okR {R : List V → Hp → Prop} {Q : VK} (h : EvA t σ H R) (hz : ∀ vs H', R vs H' → vs.length ≤ 1000) (k : ∀ vs Hm p, Same H Hm → R vs Hm → Hm p = none → p ≠ sysModules → Q (.ref p) (upd Hm p (.lst vs))) : tLstS t σ H Q :=
  h H (Same.refl _) _ fun ws Hm s r => ⟨Nat.le_trans (hz _ _ r) (by rw [sizeLine_eq]; omega), fun p hp np => k ws Hm p s r hp np⟩
abbrev IsErrs (cl : Nat → Addr) (g : V) : VP := fun v H' => ∃ l, v = .ref l ∧ Errs cl g H' l
theorem mono_errs : Mono (IsErrs cl g) := fun _ _ _ s ⟨l, e, h⟩ => ⟨l, e, h.grow s⟩
theorem ev_placed (h : Ev te σ H (is g)) : Ev (tCall (spPlaced cl) [] E0 (tCons te tNil)) σ H (IsErrs cl g) := fun H1 s Q q =>
  call_ok ((evA_k (h.mono s) evA_nil)) fun vs H2 s2 e => by
    subst e
    exact ⟨g, rfl, fun v H3 s3 ⟨l, es, e, a1, _, a2⟩ => q v H3 (s2.trans s3) ⟨l, e, es, a1, a2⟩⟩
theorem ev_rightE {d : PyData} (h1 : Ev ta σ H (IsErrs cl g)) (h3 : Ev tb σ H (is g)) (hd : ∀ H', Dq K H' g d) (sm : Small d) :
    Ev (tCall (spRight K cl) [] E0 (tCons ta (tCons tb tNil))) σ H (is (.bl true)) := fun H1 s Q q =>
  (evA_cons h1 (evA_k h3 evA_nil) mono_errs) H1 s _ fun vs H2 s2 ⟨x, r, e, ⟨l, ex, es, a1, a2⟩, er⟩ => by
    subst e
    subst ex
    subst er
    exact ⟨l, es, g, d, rfl, a1, a2, hd _, sm, fun H3 s3 => q _ H3 (s2.trans s3) rfl⟩
theorem ev_andT (h1 : Ev ta σ H (is (.bl true))) (h2 : Ev tb σ H (is (.bl true))) : Ev (tAndV ta tb) σ H (is (.bl true)) := fun H1 s Q q =>
  h1 H1 s _ fun x H2 s2 e => ⟨true, e, by
    rw [if_pos rfl]
    exact h2 H2 (s.trans s2) _ fun y H3 s3 e3 => q y H3 (s2.trans s3) e3⟩
theorem st_forC {n : Nat} {gt : TG} {body : TS} (h : EvC K t σ n) (hn : n ≤ 1000)
    (k : ∀ vs H0 p, Chain K H vs H0 → H0 p = none → ∃ Pv : Nat → St → Hp → Prop, Pv 0 σ (upd H0 p (.lst vs)) ∧ (∀ i σ' H', i ≤ vs.length → Pv i σ' H' → SqL K H' p vs) ∧
      (∀ i x σ' H', vs[i]? = some x → Pv i σ' H' → gt x σ' H' fun σ2 H2 => body { D with nx := Pv (i + 1), ct := Pv (i + 1), bk := D.nx } σ2 H2) ∧ ∀ σ' H', Pv vs.length σ' H' → D.nx σ' H') :
    tFor (iList K (tLstS t)) gt body D σ H := h H _ fun vs H0 c e => ⟨by rw [e, sizeLine_eq]; omega, fun p hp np => by
  obtain ⟨Pv, p0, p1, p2, p3⟩ := k vs H0 p c hp
  exact ⟨p, rfl, ⟨vs, SqL.of upd_same⟩, for_list Pv p0 p1 p2 p3⟩⟩
end
def spLaw (K : PySem.W.Frag) : Sp := fun vs H Q _ => ∃ a ns, vs = [.ref a] ∧ SqL K H a (List.map V.int ns) ∧ ∀ H', Q (.bl true) H'
section
variable {P : Program} {w : World} {K : PySem.W.Frag} {mg : Str → Option Value} {base : Heap} {cl : Nat → Addr}
theorem ok_law (T : Txt P K mg cl)
    (g__law_random : Callee P w K mg base 2 "_law_random" ["_law_generator_here", "_law_bound"] spRandom)
    (g__law_generator : Callee P w K mg base 2 "_law_generator" ["_law_script", "_law_index"] (spGen K))
    (g__law_placed : Callee P w K mg base 2 "_law_placed" ["_law_given"] (spPlaced cl))
    (g__law_named : Callee P w K mg base 2 "_law_named" ["_law_given"] (spPlaced cl))
    (g__law_unset : Callee P w K mg base 2 "_law_unset" [] (spUnset cl))
    (g__law_right : Callee P w K mg base 2 "_law_right" ["_law_errors", "_law_given"] (spRight K cl))
    (g__law_kinds : Callee P w K mg base 1 "_law_kinds" ["_law_error"] (spKinds cl))
    {f : Addr} {fd : FuncData} (F : Fun K "law" "law" s_law f fd) : FnG P w K mg base CX0 3 f fd ["_law_script"] (spLaw K) := by
  refine okG F c_law (fun vs H Q E h => ?_) (fun cdv A outer s H vs Q E gd hr h => ?_)
  · obtain ⟨a, ns, rfl, _⟩ := h
    rfl
  · obtain ⟨a, ns, rfl, hs, k⟩ := h
    have nd := c_law.nd
    have hu := hr.units
    refine ⟨_, (pss_cons (ps_set (i := 1) nd rfl (by first | exact Or.inl rfl | exact Or.inr rfl) (calK g__law_random gd (hr.mono (by decide)) rfl (pa_cons (calK g__law_generator gd (hr.mono (by decide)) rfl (pa_cons (pv 0) (pa_cons pe_int pa_nil))) (pa_cons (pe_op oPow pe_int pe_int) pa_nil))))
          (pss_cons (ps_set (i := 2) nd rfl (by first | exact Or.inl rfl | exact Or.inr rfl) (pe_lstS (pa_cons (calK g__law_placed gd (hr.mono (by decide)) rfl (pa_cons (pv 1) pa_nil)) (pa_cons (calK g__law_named gd (hr.mono (by decide)) rfl (pa_cons pe_str pa_nil)) pa_nil))))
          (pss_cons (ps_for PassesOwn.never rfl (piLK K (pe_lstS (pa_cons (pv 1) (pa_cons (pe_op oSub pe_int (pv 1)) (pa_cons (pe_tup (pa_cons pe_int (pa_cons pe_int pa_nil))) (pa_cons (pe_tup pa_nil) (pa_cons (pe_lstS (pa_cons pe_int pa_nil)) (pa_cons (pe_lstS pa_nil) (pa_cons pe_dnewK (pa_cons (pe_disp (pps_cons pe_str (pe_lstS (pa_cons (pv 1) pa_nil)) pps_nil) rfl rfl (by simp) (by decide)) (pa_cons pe_str (pa_cons pe_str (pa_cons pe_bl (pa_cons pe_non (pa_cons (pe_tup (pa_cons pe_str (pa_cons pe_str (pa_cons (pe_tup (pa_cons pe_int pa_nil)) pa_nil)))) pa_nil))))))))))))))) (pg_name (i := 3) nd rfl (by first | exact Or.inl rfl | exact Or.inr rfl)) (pss_cons (ps_par (i := 4) (j := 5) (by rfl) nd rfl rfl (by decide) rfl rfl (pa_cons (calK g__law_placed gd (hr.mono (by decide)) rfl (pa_cons (pv 3) pa_nil)) (pa_cons (calK g__law_named gd (hr.mono (by decide)) rfl (pa_cons (pv 3) pa_nil)) pa_nil)) (by rfl))
          (pss_cons (ps_if (PW.pt (pw_or (pt_not (ptK K (calK g__law_right gd (hr.mono (by decide)) rfl (pa_cons (pv 4) (pa_cons (pv 3) pa_nil))))) (pw_or1 (pt_not (ptK K (calK g__law_right gd (hr.mono (by decide)) rfl (pa_cons (pv 5) (pa_cons (pv 3) pa_nil)))))))) (pss_one (ps_ret pe_bl)) pss_nil)
          (pss_cons (ps_if (ptK K (pe_callB (cIsK K) (by rfl) T.z_isinstance (by decide +kernel) (pa_cons (pv 3) (pa_cons (pe_bltn (v := .ty "list") (by rfl) T.z_list (by decide +kernel) rfl) pa_nil)))) (pss_one (ps_expr (pe_bm PySem.F.plainAttrs_list PySem.F.slot_list_append PySem.F.type_list_append mt_append (pv 3) (pa_cons pe_str pa_nil)))) pss_nil)
          (pss_cons (ps_if (ptK K (pe_callB (cIsK K) (by rfl) T.z_isinstance (by decide +kernel) (pa_cons (pv 3) (pa_cons (pe_bltn (v := .ty "dict") (by rfl) T.z_dict (by decide +kernel) rfl) pa_nil)))) (pss_one (ps_asg (pe_lstS (pa_cons pe_int pa_nil)) (pg_sub (pv 3) pe_str (set_dict (Nat.lt_trans (Nat.add_lt_add_left (by decide) _) hu))))) pss_nil)
          (pss_one (ps_if (PW.pt (pw_or (pt_not (ptK K (calK g__law_right gd (hr.mono (by decide)) rfl (pa_cons (pv 4) (pa_cons (pv 3) pa_nil))))) (pw_or1 (pt_not (ptK K (calK g__law_right gd (hr.mono (by decide)) rfl (pa_cons (pv 5) (pa_cons (pv 3) pa_nil)))))))) (pss_one (ps_ret pe_bl)) pss_nil)))))))
          (pss_cons (ps_if (PW.pt (pw_or (pt_not (ptK K (calK g__law_right gd (hr.mono (by decide)) rfl (pa_cons (pe_ix (ixK K) (pv 2) pe_int (fun _ _ => rfl)) (pa_cons (pv 1) pa_nil))))) (pw_or (pt_not (ptK K (calK g__law_right gd (hr.mono (by decide)) rfl (pa_cons (pe_ix (ixK K) (pv 2) pe_int (fun _ _ => rfl)) (pa_cons pe_str pa_nil))))) (pw_or1 (pt_not (ptK K (calK g__law_right gd (hr.mono (by decide)) rfl (pa_cons (calK0 g__law_unset gd (hr.mono (by decide)) rfl) (pa_cons pe_non pa_nil))))))))) (pss_one (ps_ret pe_bl)) pss_nil)
          (pss_one (ps_ret (pe_and (pe_cmpR (oEqK K hu) (calK g__law_kinds gd (hr.mono (by decide)) rfl (pa_cons (pe_mkN T.k_NothingToUndo hr rfl) pa_nil)) (pe_lstS (pa_cons pe_int pa_nil)) (by rfl)) (pe_one (pe_callB (cIsK K) (by rfl) T.z_isinstance (by decide +kernel) (pa_cons (pe_mkP T.k_HeldError rfl) (pa_cons (pe_bltn (v := .ty "ValueError") (by rfl) T.z_ValueError (by decide +kernel) rfl) pa_nil))))))))))), ?_⟩
    have big : (10 : Int) ^ 12 < 10 ^ 30 := by decide
    refine st_set0 (call_ok (R := fun vs H' => ∃ x r, vs = x :: r ∧ (∃ (g : Addr) (i j : Int), x = .ref g ∧ H' g = some (.lst [.int i, .int j, .int 0]) ∧ 0 ≤ i ∧ i < 10 ^ 600 ∧ 0 ≤ j ∧ j < 2147483647) ∧ r = [.int (10 ^ 12)])
      (evA_cons (fun H1 s1 Q q => call_ok (evA_k (ev_var rfl) (evA_k ev_c evA_nil)) fun vs H2 s2 e => ?_) (evA_k (ev_rI (cpow (by decide +kernel)) ev_c ev_c) evA_nil) ?_) fun vs H1 s1 r => ?_)
    · subst e
      exact ⟨a, ns, rfl, (s1.trans s2).seq hs, fun v H3 s3 ⟨i, j, ⟨g, e, h1, _⟩, b⟩ => q v H3 (s2.trans s3) ⟨g, i, j, e, h1, b⟩⟩
    · exact fun _ _ _ s ⟨g, i, j, e, h1, b⟩ => ⟨g, i, j, e, s _ _ h1, b⟩
    obtain ⟨x, r, rfl, ⟨g, i, j, rfl, hg, i0, i1, j0, j1⟩, rfl⟩ := r
    refine ⟨g, i, j, rfl, hg, i0, i1, j0, j1, fun m H2 _ m0 m1 => ?_⟩
    have ml : -(10 ^ 30) < m := by omega
    have mr : m < 10 ^ 30 := by omega
    refine st_set0 (lstS_okR (evA_cons (ev_placed (ev_var rfl)) (evA_cons (ev_placed ev_c) evA_nil mono_errs) mono_errs) (fun vs H' ⟨x, r, e, _, y, r2, e2, _, e3⟩ => by simp [e, e2, e3]) fun vs Hm el s2 r hel nel => ?_)
    obtain ⟨x0, r, rfl, ⟨l0, rfl, w0⟩, x1, r2, rfl, ⟨l1, rfl, w1⟩, rfl⟩ := r
    have sg := Same.grow (o := .lst [V.ref l0, V.ref l1]) (Same.refl Hm) hel
    have w0 := w0.grow sg
    have w1 := w1.grow sg
    have we : upd Hm el (.lst [V.ref l0, V.ref l1]) el = some (.lst [V.ref l0, V.ref l1]) := upd_same
    generalize hHE : upd Hm el (.lst [V.ref l0, V.ref l1]) = HE at w0 w1 we ⊢
    have vm : ∀ (H : Hp), Ev (tVar 1) [some (.ref a), some (.int m), some (.ref el), none, none, none] H (is (.int m)) := fun H => ev_var rfl
    refine st_forC (σ := [some (.ref a), some (.int m), some (.ref el), none, none, none])
      (evC_cons (evF_int vm ml mr) (evC_cons (evF_int (i := 0 - m) (fun H => ev_rI0 ev_c (vm H)) (by omega) (by omega))
        (evC_cons (evF_tup (vs := [.int 1, .int 2]) (ds := [.int 1, .int 2]) (fun H => evA_k ev_c (evA_k ev_c evA_nil)) (by simp) (fun _ => .cons (.int 1) (.cons (.int 2) .nil)) ⟨by decide +kernel, by decide +kernel, by decide +kernel⟩)
        (evC_cons (evF_tup (vs := []) (ds := []) (fun H => evA_nil) (by simp) (fun _ => .nil) ⟨by decide +kernel, by decide +kernel, by decide +kernel⟩)
        (evC_cons (evF_lst (vs := [.int 1]) (ds := [.int 1]) (fun H => evA_k ev_c evA_nil) (by simp) (fun _ => .cons (.int 1) .nil) ⟨by decide +kernel, by decide +kernel, by decide +kernel⟩ ⟨by decide +kernel, by decide +kernel, by decide +kernel⟩)
        (evC_cons (evF_lst (vs := []) (ds := []) (fun H => evA_nil) (by simp) (fun _ => .nil) ⟨by decide +kernel, by decide +kernel, by decide +kernel⟩ ⟨by decide +kernel, by decide +kernel, by decide +kernel⟩)
        (evC_cons evF_dnew (evC_cons (evF_disp vm ml mr)
        (evC_cons (evF_str (fun H => ev_c) (by decide +kernel)) (evC_cons (evF_str (fun H => ev_c) (by decide +kernel))
        (evC_cons (evF_s (v := .bl true) (d := .bool true) (nm := "bool") (fun H => ev_c) (fun _ => .bl true) ⟨by decide +kernel, by decide +kernel, by decide +kernel⟩ (fun _ => rfl) (by simp) (fun _ z => nomatch z))
        (evC_cons (evF_s (v := .non) (d := .none) (nm := "NoneType") (fun H => ev_c) (fun _ => .non) ⟨by decide +kernel, by decide +kernel, by decide +kernel⟩ (fun _ => rfl) (by simp) (fun _ z => nomatch z))
        (evC_cons evF_say evC_nil))))))))))))) (by decide) fun vs H0 p ch hp => ?_
    refine ⟨fun i σ' H' => ∃ t3 t4 t5, σ' = [some (.ref a), some (.int m), some (.ref el), t3, t4, t5] ∧ ∀ b o, upd H0 p (.lst vs) b = some o → (∀ j y, j < i → vs[j]? = some y → y ≠ .ref b) → H' b = some o,
      ⟨none, none, none, rfl, fun b o e _ => e⟩, fun i σ' H' hi ⟨t3, t4, t5, _, f⟩ => ?_, fun i x σ' H' hx ⟨t3, t4, t5, e, f⟩ => ?_, fun σ' H' ⟨t3, t4, t5, e, f⟩ => ?_⟩
    · refine SqL.of (f p _ upd_same fun j y hj hy z => ?_)
      subst z
      obtain ⟨_, o, e⟩ := ch.fresh j p hy
      rw [hp] at e
      cases e
    · subst e
      refine body_ok (ch.at i x hx H' fun b o n e q => f b o (Same.grow (Same.refl _) hp b o e) q) fun v4 v5 H'' k' => ?_
      exact ⟨some x, some v4, some v5, rfl, fun b o e q => k' b o (q i x (by omega) hx) (f b o e fun j y hj => q j y (by omega))⟩
    · subst e
      have sE : Same HE H' := fun b o e => f b o (Same.grow (Same.refl _) hp b o (ch.same b o e)) fun j y hj hy z => by
        subst z
        obtain ⟨q, _⟩ := ch.fresh j b hy
        rw [q] at e
        cases e
      have w0 := w0.grow sE
      have w1 := w1.grow sE
      have we := sE _ _ we
      dsimp only
      have ixE : ∀ (c : Int) (l : Addr) (gv : V), atI [V.ref l0, V.ref l1] c = some (.ref l) → Errs cl gv H' l → Ev (tOp (rIx K) (tVar 2) (tC (V.int c))) [some (.ref a), some (.int m), some (.ref el), t3, t4, t5] H' (IsErrs cl gv) := fun c l gv h1 h2 =>
        (ev_ixN ((ev_var rfl).weak fun x H' s' e => ⟨el, e, s' _ _ we⟩) ev_c h1).weak fun x H1 s1 e => ⟨l, e, h2.grow s1⟩
      refine st_if (evT_or (evT_not (evT_tru' (ev_rightE (ixE 0 l0 (.int m) rfl w0) (ev_var rfl) (fun _ => .int m) (small_int ml mr))))
        (evT_or (evT_not (evT_tru' (ev_rightE (ixE 1 l1 (.str "elder") rfl w1) ev_c (fun _ => .str "elder") ⟨by decide +kernel, by decide +kernel, by decide +kernel⟩)))
          (evT_not (evT_tru' (ev_rightE (g := .non) (d := .none) (fun H1 s1 Q q => ⟨rfl, fun v H2 s2 ⟨l, es, e, a1, _, a2⟩ => q v H2 s2 ⟨l, e, es, a1, a2⟩⟩) ev_c (fun _ => .non) ⟨by decide +kernel, by decide +kernel, by decide +kernel⟩))))) fun c H3 s3 ec => ?_
      subst ec
      refine st_next ?_
      dsimp only
      have mN : ∀ C, Mono (fun x H' => ∃ a, x = .ref a ∧ H' a = some (exo a C none)) := fun C _ _ _ s ⟨a, e, h⟩ => ⟨a, e, s _ _ h⟩
      refine st_ret (ev_andT (ev_op (P1 := IsL [.int 11]) (P2 := IsL [.int 11]) (fun H1 s1 Q q => call_ok (evA_cons ev_mkN evA_nil (mN _)) fun vs H2 s2 ⟨x, r, e, ⟨b, ex, hb⟩, er⟩ => ?_) (fun H1 s1 Q q => lstS_ok (evA_k ev_c evA_nil) (by simp) fun Hm p s hp np => ?_) mono_isL fun x y H4 s4 ⟨b1, e1, h1⟩ ⟨b2, e2, h2⟩ Q q => ?_)
        (ev_cb (evA_cons ev_mkN (evA_k ev_c evA_nil) (mN _)) fun vs H4 s4 ⟨x, r, e, ⟨b, ex, hb⟩, er⟩ Q q => ?_)) fun v H4 s4 e4 => ?_
      · subst e
        subst ex
        subst er
        exact ⟨b, 11, rfl, by decide, .inr hb, fun v H3 s3 ⟨l, e, h1, _⟩ => q v H3 (s2.trans s3) ⟨l, e, h1⟩⟩
      · exact q _ _ (Same.grow s hp) ⟨p, rfl, upd_same⟩
      · subst e1
        subst e2
        exact .inr ⟨.list [.int 11], .list [.int 11], .lst (SqL.of h1) (.cons (.int 11) .nil), .lst (SqL.of h2) (.cons (.int 11) .nil), by decide +kernel, by decide +kernel, q _ _ (Same.refl _) (by show V.bl _ = V.bl true; exact congrArg V.bl (by decide +kernel))⟩
      · subst e
        subst ex
        subst er
        exact .inr (.inr ⟨b, cl 12, .ty "ValueError", .type "ValueError", true, rfl, hb, T.ex 12 (by decide), fun _ h => h, T.kitV 12 (by decide), q _ _ (Same.refl _) rfl⟩)
      · have e4' : v = _ := e4
        rw [e4']
        exact k _
end
end L2.Hx

/-! #### R8 -/
set_option Elab.async false
set_option linter.all false
set_option maxRecDepth 100000
set_option maxHeartbeats 4000000
namespace L2.Hx
open PySem PySem.Spec PyProof.Rows
/-! the classes of the text, from what stands written -/
open PySem.W PySem.Calls
open PySem.HandSPX (excO refsVE)
structure Syn (prog : Program) (st : Stmt) (fld : Str) : Prop where
  sc : SupScope prog (defArgs st) (defScope st)
  hfld : (defScope st).names.lookup fld = some .local
  dbg : (fld == ("__debug__" : Str)) = false
  shape : ∃ (p0 p1 p2 p3 p4 p5 q1 q2 q3 q4 : Pos) (kd : Nat) (msg : Str),
    defBody st = [.Expr (supE p0 p1 p2 p3 p4 kd msg) p5, .Assign [.Attribute (.Name "self" q1) fld q2] (.Name fld q3) q4] ∧ PlainCall p0 p1 p2 p3 p4 kd msg
  ne : fld ≠ "self"
  bf : ∀ (s : Shared) (qual : Str) (kV doc pm cdv ct : Value) (an : Option Addr) (cc T : Addr) (o : Obj) (n : Nat), s.heap.get? T = some o → o.data = .seq #[.none] n →
    (∀ a b, BindsTo s (ksFn "__init__" qual (defArgs st) (defBody st) (defScope st) (.ref T) kV doc pm an cdv ct cc) ⟨[a, b], []⟩ [("self", a), (fld, b)]) ∧
    (∀ a, BindsTo s (ksFn "__init__" qual (defArgs st) (defBody st) (defScope st) (.ref T) kV doc pm an cdv ct cc) ⟨[a], []⟩ [("self", a), (fld, .none)]) ∧
    ∀ a b, BindsTo s (ksFn "__init__" qual (defArgs st) (defBody st) (defScope st) (.ref T) kV doc pm an cdv ct cc) ⟨[a], [(fld, b)]⟩ [("self", a), (fld, b)]
abbrev i_InvalidList : Stmt := inClass (top 2) 0
theorem syn_InvalidList : Syn PySem.Challenge.pw_heldnames_k01_errors i_InvalidList "value" := ⟨⟨⟨_, rfl, rfl⟩, rfl, rfl, rfl, rfl, rfl, rfl, by decide +kernel, rfl⟩, rfl, by decide, ⟨_, _, _, _, _, _, _, _, _, _, _, _, rfl, fun env => ⟨_, rfl⟩⟩, by decide, fun s q kV doc pm cdv ct an cc T o n ho hs => ⟨fun a b => .of_defaults rfl ho hs rfl rfl, fun a => .of_defaults rfl ho hs rfl rfl, fun a b => .of_defaults rfl ho hs rfl rfl⟩⟩
abbrev i_InvalidItem : Stmt := inClass (top 3) 0
theorem syn_InvalidItem : Syn PySem.Challenge.pw_heldnames_k01_errors i_InvalidItem "value" := ⟨⟨⟨_, rfl, rfl⟩, rfl, rfl, rfl, rfl, rfl, rfl, by decide +kernel, rfl⟩, rfl, by decide, ⟨_, _, _, _, _, _, _, _, _, _, _, _, rfl, fun env => ⟨_, rfl⟩⟩, by decide, fun s q kV doc pm cdv ct an cc T o n ho hs => ⟨fun a b => .of_defaults rfl ho hs rfl rfl, fun a => .of_defaults rfl ho hs rfl rfl, fun a b => .of_defaults rfl ho hs rfl rfl⟩⟩
abbrev i_InvalidProgram : Stmt := inClass (top 4) 0
theorem syn_InvalidProgram : Syn PySem.Challenge.pw_heldnames_k01_errors i_InvalidProgram "value" := ⟨⟨⟨_, rfl, rfl⟩, rfl, rfl, rfl, rfl, rfl, rfl, by decide +kernel, rfl⟩, rfl, by decide, ⟨_, _, _, _, _, _, _, _, _, _, _, _, rfl, fun env => ⟨_, rfl⟩⟩, by decide, fun s q kV doc pm cdv ct an cc T o n ho hs => ⟨fun a b => .of_defaults rfl ho hs rfl rfl, fun a => .of_defaults rfl ho hs rfl rfl, fun a b => .of_defaults rfl ho hs rfl rfl⟩⟩
abbrev i_InvalidWord : Stmt := inClass (top 5) 0
theorem syn_InvalidWord : Syn PySem.Challenge.pw_heldnames_k01_errors i_InvalidWord "value" := ⟨⟨⟨_, rfl, rfl⟩, rfl, rfl, rfl, rfl, rfl, rfl, by decide +kernel, rfl⟩, rfl, by decide, ⟨_, _, _, _, _, _, _, _, _, _, _, _, rfl, fun env => ⟨_, rfl⟩⟩, by decide, fun s q kV doc pm cdv ct an cc T o n ho hs => ⟨fun a b => .of_defaults rfl ho hs rfl rfl, fun a => .of_defaults rfl ho hs rfl rfl, fun a b => .of_defaults rfl ho hs rfl rfl⟩⟩
abbrev i_InvalidPlace : Stmt := inClass (top 6) 0
theorem syn_InvalidPlace : Syn PySem.Challenge.pw_heldnames_k01_errors i_InvalidPlace "value" := ⟨⟨⟨_, rfl, rfl⟩, rfl, rfl, rfl, rfl, rfl, rfl, by decide +kernel, rfl⟩, rfl, by decide, ⟨_, _, _, _, _, _, _, _, _, _, _, _, rfl, fun env => ⟨_, rfl⟩⟩, by decide, fun s q kV doc pm cdv ct an cc T o n ho hs => ⟨fun a b => .of_defaults rfl ho hs rfl rfl, fun a => .of_defaults rfl ho hs rfl rfl, fun a b => .of_defaults rfl ho hs rfl rfl⟩⟩
abbrev i_InvalidRun : Stmt := inClass (top 7) 0
theorem syn_InvalidRun : Syn PySem.Challenge.pw_heldnames_k01_errors i_InvalidRun "value" := ⟨⟨⟨_, rfl, rfl⟩, rfl, rfl, rfl, rfl, rfl, rfl, by decide +kernel, rfl⟩, rfl, by decide, ⟨_, _, _, _, _, _, _, _, _, _, _, _, rfl, fun env => ⟨_, rfl⟩⟩, by decide, fun s q kV doc pm cdv ct an cc T o n ho hs => ⟨fun a b => .of_defaults rfl ho hs rfl rfl, fun a => .of_defaults rfl ho hs rfl rfl, fun a b => .of_defaults rfl ho hs rfl rfl⟩⟩
abbrev i_InvalidCells : Stmt := inClass (top 8) 0
theorem syn_InvalidCells : Syn PySem.Challenge.pw_heldnames_k01_errors i_InvalidCells "value" := ⟨⟨⟨_, rfl, rfl⟩, rfl, rfl, rfl, rfl, rfl, rfl, by decide +kernel, rfl⟩, rfl, by decide, ⟨_, _, _, _, _, _, _, _, _, _, _, _, rfl, fun env => ⟨_, rfl⟩⟩, by decide, fun s q kV doc pm cdv ct an cc T o n ho hs => ⟨fun a b => .of_defaults rfl ho hs rfl rfl, fun a => .of_defaults rfl ho hs rfl rfl, fun a b => .of_defaults rfl ho hs rfl rfl⟩⟩
abbrev i_InvalidText : Stmt := inClass (top 9) 0
theorem syn_InvalidText : Syn PySem.Challenge.pw_heldnames_k01_errors i_InvalidText "value" := ⟨⟨⟨_, rfl, rfl⟩, rfl, rfl, rfl, rfl, rfl, rfl, by decide +kernel, rfl⟩, rfl, by decide, ⟨_, _, _, _, _, _, _, _, _, _, _, _, rfl, fun env => ⟨_, rfl⟩⟩, by decide, fun s q kV doc pm cdv ct an cc T o n ho hs => ⟨fun a b => .of_defaults rfl ho hs rfl rfl, fun a => .of_defaults rfl ho hs rfl rfl, fun a b => .of_defaults rfl ho hs rfl rfl⟩⟩
abbrev i_InvalidName : Stmt := inClass (top 10) 0
theorem syn_InvalidName : Syn PySem.Challenge.pw_heldnames_k01_errors i_InvalidName "name" := ⟨⟨⟨_, rfl, rfl⟩, rfl, rfl, rfl, rfl, rfl, rfl, by decide +kernel, rfl⟩, rfl, by decide, ⟨_, _, _, _, _, _, _, _, _, _, _, _, rfl, fun env => ⟨_, rfl⟩⟩, by decide, fun s q kV doc pm cdv ct an cc T o n ho hs => ⟨fun a b => .of_defaults rfl ho hs rfl rfl, fun a => .of_defaults rfl ho hs rfl rfl, fun a b => .of_defaults rfl ho hs rfl rfl⟩⟩
abbrev i_TakenName : Stmt := inClass (top 11) 0
theorem syn_TakenName : Syn PySem.Challenge.pw_heldnames_k01_errors i_TakenName "name" := ⟨⟨⟨_, rfl, rfl⟩, rfl, rfl, rfl, rfl, rfl, rfl, by decide +kernel, rfl⟩, rfl, by decide, ⟨_, _, _, _, _, _, _, _, _, _, _, _, rfl, fun env => ⟨_, rfl⟩⟩, by decide, fun s q kV doc pm cdv ct an cc T o n ho hs => ⟨fun a b => .of_defaults rfl ho hs rfl rfl, fun a => .of_defaults rfl ho hs rfl rfl, fun a b => .of_defaults rfl ho hs rfl rfl⟩⟩
abbrev i_UnknownName : Stmt := inClass (top 12) 0
theorem syn_UnknownName : Syn PySem.Challenge.pw_heldnames_k01_errors i_UnknownName "name" := ⟨⟨⟨_, rfl, rfl⟩, rfl, rfl, rfl, rfl, rfl, rfl, by decide +kernel, rfl⟩, rfl, by decide, ⟨_, _, _, _, _, _, _, _, _, _, _, _, rfl, fun env => ⟨_, rfl⟩⟩, by decide, fun s q kV doc pm cdv ct an cc T o n ho hs => ⟨fun a b => .of_defaults rfl ho hs rfl rfl, fun a => .of_defaults rfl ho hs rfl rfl, fun a b => .of_defaults rfl ho hs rfl rfl⟩⟩
section
variable {prog : Program} {K : Frag} {h : Heap} {mg : Str → Option Value} {x fld qual : Str} {st : Stmt} {C f cc cda T N : Addr}
  {nm q : Str} {bs bm : List Value} {sn : List Str} {sub : List Value} {ab : Bool} {col : Option Bool} {dd : Option Addr} {k0 k1 k2 k3 k5 : Option Value} {oc kV doc pm ct ccl cl oT dV : Value} {od an cdd cld odT : Option Addr}
  {osl ccs csl slT : Array (Option Value)} {vs : Array Value} {file : Str} {tf : Tok} {nT : Nat} {kV2 : Value}
theorem sup_mk (lC : K.lookup C = some (excClassObj nm q C N bs bm true sn sub ab col dd k0 k1 k2 k3 k5 "ValueError.__new__")) (hbm : refsVE bm = true)
    (sup : ks_superIn K C C "__init__" = some (some (.builtin "ValueError.__init__"))) (subB : subIn K (.ref C) (.type "ValueError") = some true) (selfM : mroIn K C (.ref C) = some true)
    (noS : nsIn K mainGlobals "super" = some none) (noT : nsIn K cStatics "thirdparty.any" = some none)
    (lf : K.lookup f = some ⟨oc, od, .func (ksFn "__init__" qual (defArgs st) (defBody st) (defScope st) dV kV doc pm an (.ref cda) ct cc), osl⟩)
    (ci : codeIn K (.ref cda) qual = true) (lcd : K.lookup cda = some ⟨ccl, cdd, .fields vs, ccs⟩) (hv : vs[2]? = some (.str file tf)) (hf : ((prog.main.file : Str) == file) = true)
    (lcc : K.lookup cc = some ⟨cl, cld, .cell (some (.ref C)), csl⟩) :
    SupC prog K C f cc cda qual (defArgs st) (defBody st) (defScope st) (ksFn "__init__" qual (defArgs st) (defBody st) (defScope st) dV kV doc pm an (.ref cda) ct cc) :=
  ⟨⟨nm, q, N, bs, bm, sn, sub, ab, col, dd, k0, k1, k2, k3, k5, lC, hbm⟩, sup, subB, selfM, noS, noT, ⟨oc, od, dV, kV, doc, pm, an, ct, osl, rfl, lf⟩, ci, ⟨ccl, cdd, vs, ccs, file, tf, lcd, hv, hf⟩, ⟨cl, cld, csl, lcc⟩⟩
theorem exc_mk (ga : findIn K (.ref C) "__getattribute__" = some (some (.builtin "BaseException.__getattribute__"))) (gg : findIn K (.ref C) "__getattr__" = some none)
    (exC : subIn K (.ref C) (.type "BaseException") = some true) (hdC : hasDictIn K C = true) (ha : findIn K (.ref C) "__class__" = some (some (.builtin "object.__class__")))
    (hn : specialIn K (.builtin "object.__class__") "__get__" = some (some (.builtin "getset_descriptor.__get__"))) (ht : takesIn K (.builtin "object.__class__") = some true) (hm : mroIn K C (.type "object") = some true) : ExcC K C :=
  ⟨ga, gg, exC, hdC, ha, hn, ht, hm⟩
theorem xcls_mk (S : Syn prog st fld) (X : K.In h) (G : h.Ns mainGlobals mg) (m : nsIn K mainGlobals x = some (some (.ref C)))
    (P : SupC prog K C f cc cda qual (defArgs st) (defBody st) (defScope st) (ksFn "__init__" qual (defArgs st) (defBody st) (defScope st) (.ref T) kV doc pm an (.ref cda) ct cc))
    (lT : K.lookup T = some ⟨oT, odT, .seq #[.none] nT, slT⟩) (iC : findIn K (.ref C) "__init__" = some (some (.ref f))) (tC : typeIn K (.ref f) = some (.type "function")) (kC : keepIn K (.ref C) = true)
    (sa : findIn K (.ref C) "__setattr__" = some (some (.builtin "object.__setattr__"))) (noF : findIn K (.ref C) fld = some none) (E : ExcC K C) : XCls prog K mg x fld C := by
  refine ⟨⟨f, cc, cda, qual, defArgs st, defBody st, defScope st, _, ⟨P, S.sc, S.hfld, S.dbg, S.shape, S.ne, sa, noF⟩, ⟨iC, tC, kC⟩, ?_, ?_, ?_⟩, PySem.W.mg_of X G m, ⟨E.hg, E.hk, E.hs, E.hd, noF⟩, E⟩
  · intro s us hK hl
    have hl : us.length = 2 := by simpa using hl
    match us, hl with
    | [a, b], _ => exact (S.bf s qual kV doc pm (.ref cda) ct an cc T _ nT (hK _ _ lT) rfl).1 a b
  · intro s us hK hl
    have hl : us.length = 1 := by simpa using hl
    match us, hl with
    | [a], _ => exact (S.bf s qual kV doc pm (.ref cda) ct an cc T _ nT (hK _ _ lT) rfl).2.1 a
  · intro s a b hK
    exact (S.bf s qual kV doc pm (.ref cda) ct an cc T _ nT (hK _ _ lT) rfl).2.2 a b
end
abbrev i_Nothing : Stmt := inClass (top 13) 0
theorem ncls_mk {K : Frag} {h : Heap} {mg : Str → Option Value} {C f cc cda : Addr} {qual : Str} {kV doc pm ct : Value} {an : Option Addr} (X : K.In h) (G : h.Ns mainGlobals mg) (m : nsIn K mainGlobals "NothingToUndo" = some (some (.ref C)))
    (P : SupC PySem.Challenge.pw_heldnames_k01_errors K C f cc cda qual (defArgs i_Nothing) (defBody i_Nothing) (defScope i_Nothing) (ksFn "__init__" qual (defArgs i_Nothing) (defBody i_Nothing) (defScope i_Nothing) .none kV doc pm an (.ref cda) ct cc))
    (iC : findIn K (.ref C) "__init__" = some (some (.ref f))) (tC : typeIn K (.ref f) = some (.type "function")) (kC : keepIn K (.ref C) = true) (E : ExcC K C) : NCls PySem.Challenge.pw_heldnames_k01_errors K mg "NothingToUndo" C := by
  refine ⟨⟨f, cc, cda, qual, defArgs i_Nothing, defBody i_Nothing, defScope i_Nothing, _, ⟨P, ⟨⟨_, rfl, rfl⟩, rfl, rfl, rfl, rfl, rfl, rfl, by decide +kernel, rfl⟩, ⟨_, _, _, _, _, _, _, _, rfl, fun env => ⟨_, rfl⟩⟩⟩, ⟨iC, tC, kC⟩, ?_⟩, PySem.W.mg_of X G m, E⟩
  exact .all fun us hl => match us, hl with | [_], _ => rfl
end L2.Hx

/-! #### R9 -/
set_option Elab.async false
set_option linter.all false
set_option maxRecDepth 100000
set_option maxHeartbeats 4000000
namespace L2.Hx
open PySem PySem.Spec PyProof.Rows
/-! the end -/
open PySem.W
/-- a def that stands written under its name -/
structure DefK (K : Frag) (mg : Str → Option Value) (x : Str) (st : Stmt) : Prop where
  is : ∃ (f : Addr) (fd : FuncData), mg x = some (.ref f) ∧ Fun K x x st f fd
theorem def_mk {K : Frag} {h : Heap} {mg : Str → Option Value} (X : K.In h) (G : h.Ns mainGlobals mg) {x : Str} {st : Stmt} {f : Addr} {oc : Value} {od an : Option Addr} {osl : Array (Option Value)} {kV doc pm cdv ct : Value}
    (a : nsIn K mainGlobals x = some (some (.ref f))) (l : K.lookup f = some ⟨oc, od, .func (PySem.W.fnOf x x (defArgs st) (defBody st) (defScope st) .none kV doc pm an cdv ct), osl⟩)
    (c : PySem.W.codeIn K cdv x = true) (k : PySem.W.keepIn K (.ref f) = true) : DefK K mg x st := ⟨⟨f, _, PySem.W.mg_of X G a, fun_mk l c k⟩⟩
def kitsIn (K : Frag) (cs : List Addr) : Bool :=
  ((List.range 12).all fun i => ((List.range 12).all fun j => kitOne K (.ref (cs.getD i 0)) (.ref (cs.getD j 0)) == some (Nat.beq i j)) && kitOne K (.ref (cs.getD i 0)) (.ref (cs.getD 12 0)) == some true) &&
  (List.range 13).all fun i => kitOne K (.ref (cs.getD i 0)) (.type "ValueError") == some true
section
variable {P : Program} {w : World} {K : Frag} {mg : Str → Option Value} {h : Heap} {fa : Addr} {cl : Nat → Addr}
theorem law_mk (T : Txt P K mg cl) (hfa : mg "law" = some (.ref fa)) (d0 : DefK K mg "_law_random" s__law_random) (d1 : DefK K mg "_law_generator" s__law_generator) (d2 : DefK K mg "_law_placed" s__law_placed) (d3 : DefK K mg "_law_named" s__law_named) (d4 : DefK K mg "_law_unset" s__law_unset) (d5 : DefK K mg "_law_right" s__law_right) (d6 : DefK K mg "_law_kinds" s__law_kinds) (d7 : DefK K mg "_law_hash" s__law_hash) (d8 : DefK K mg "_law_cell" s__law_cell) (d9 : DefK K mg "law" s_law) :
    ∃ fd : FuncData, (∀ (s : Shared) (u : Value), BindsTo s fd ⟨[u], []⟩ [("_law_script", u)]) ∧ ∀ base : Heap, K.In base → base.Ns mainGlobals mg → FnG P w K mg base CX0 3 fa fd ["_law_script"] (spLaw K) := by
  obtain ⟨f0, fd0, m0, F0⟩ := d0.is
  obtain ⟨f1, fd1, m1, F1⟩ := d1.is
  obtain ⟨f2, fd2, m2, F2⟩ := d2.is
  obtain ⟨f3, fd3, m3, F3⟩ := d3.is
  obtain ⟨f4, fd4, m4, F4⟩ := d4.is
  obtain ⟨f5, fd5, m5, F5⟩ := d5.is
  obtain ⟨f6, fd6, m6, F6⟩ := d6.is
  obtain ⟨f7, fd7, m7, F7⟩ := d7.is
  obtain ⟨f8, fd8, m8, F8⟩ := d8.is
  obtain ⟨f9, fd9, m9, F9⟩ := d9.is
  cases hfa.symm.trans m9
  have b0 : Binds K fd0 ["_law_generator_here", "_law_bound"] [] := F0.binds fun _ _ _ _ _ _ us hl => match us, hl with | [_, _], _ => rfl
  have b1 : Binds K fd1 ["_law_script", "_law_index"] [] := F1.binds fun _ _ _ _ _ _ us hl => match us, hl with | [_, _], _ => rfl
  have b2 : Binds K fd2 ["_law_given"] [] := F2.binds fun _ _ _ _ _ _ us hl => match us, hl with | [_], _ => rfl
  have b3 : Binds K fd3 ["_law_given"] [] := F3.binds fun _ _ _ _ _ _ us hl => match us, hl with | [_], _ => rfl
  have b4 : Binds K fd4 [] [] := F4.binds fun _ _ _ _ _ _ us hl => match us, hl with | [], _ => rfl
  have b5 : Binds K fd5 ["_law_errors", "_law_given"] [] := F5.binds fun _ _ _ _ _ _ us hl => match us, hl with | [_, _], _ => rfl
  have b6 : Binds K fd6 ["_law_error"] [] := F6.binds fun _ _ _ _ _ _ us hl => match us, hl with | [_], _ => rfl
  have b7 : Binds K fd7 ["_law_seed", "_law_index"] [] := F7.binds fun _ _ _ _ _ _ us hl => match us, hl with | [_, _], _ => rfl
  have b8 : Binds K fd8 ["_law_script", "_law_index"] [] := F8.binds fun _ _ _ _ _ _ us hl => match us, hl with | [_, _], _ => rfl
  obtain ⟨oc, od, kV, doc, pm, an, cdv, ct, osl, e, lk, hcd⟩ := F9.ex
  refine ⟨fd9, fun s u => by subst e; exact .of_eq rfl, fun base hK hG => ?_⟩
  have c8 : Callee P w K mg base 1 "_law_cell" ["_law_script", "_law_index"] (spCell K) := ⟨f8, fd8, ok_cell T F8, m8, F8.kp, b8⟩
  have c7 : Callee P w K mg base 1 "_law_hash" ["_law_seed", "_law_index"] spHash := ⟨f7, fd7, ok_hash T F7, m7, F7.kp, b7⟩
  have c6 : Callee P w K mg base 1 "_law_kinds" ["_law_error"] (spKinds cl) := ⟨f6, fd6, ok_kinds T F6, m6, F6.kp, b6⟩
  have c5 : Callee P w K mg base 2 "_law_right" ["_law_errors", "_law_given"] (spRight K cl) := ⟨f5, fd5, ok_right T c6 F5, m5, F5.kp, b5⟩
  have c4 : Callee P w K mg base 2 "_law_unset" [] (spUnset cl) := ⟨f4, fd4, ok_unset T F4, m4, F4.kp, b4⟩
  have c3 : Callee P w K mg base 2 "_law_named" ["_law_given"] (spPlaced cl) := ⟨f3, fd3, ok_named T F3, m3, F3.kp, b3⟩
  have c2 : Callee P w K mg base 2 "_law_placed" ["_law_given"] (spPlaced cl) := ⟨f2, fd2, ok_placed T F2, m2, F2.kp, b2⟩
  have c1 : Callee P w K mg base 2 "_law_generator" ["_law_script", "_law_index"] (spGen K) := ⟨f1, fd1, ok_generator T c8 F1, m1, F1.kp, b1⟩
  have c0 : Callee P w K mg base 2 "_law_random" ["_law_generator_here", "_law_bound"] spRandom := ⟨f0, fd0, ok_random T c7 F0, m0, F0.kp, b0⟩
  exact ok_law T c0 c1 c2 c3 c4 c5 c6 F9
theorem txt_mk {c0 c1 c2 c3 c4 c5 c6 c7 c8 c9 c10 c11 c12 : Addr} (X : K.In h) (G : h.Ns mainGlobals mg)
    (x0 : XCls P K mg "InvalidList" "value" c0) (x1 : XCls P K mg "InvalidItem" "value" c1) (x2 : XCls P K mg "InvalidProgram" "value" c2) (x3 : XCls P K mg "InvalidWord" "value" c3)
    (x4 : XCls P K mg "InvalidPlace" "value" c4) (x5 : XCls P K mg "InvalidRun" "value" c5) (x6 : XCls P K mg "InvalidCells" "value" c6) (x7 : XCls P K mg "InvalidText" "value" c7)
    (x8 : XCls P K mg "InvalidName" "name" c8) (x9 : XCls P K mg "TakenName" "name" c9) (x10 : XCls P K mg "UnknownName" "name" c10) (x11 : NCls P K mg "NothingToUndo" c11) (x12 : PCls K mg "HeldError" c12)
    (kt : kitsIn K [c0, c1, c2, c3, c4, c5, c6, c7, c8, c9, c10, c11, c12] = true) (z0 : nsIn K mainGlobals "len" = some none) (z1 : nsIn K mainGlobals "int" = some none) (z2 : nsIn K mainGlobals "max" = some none) (z3 : nsIn K mainGlobals "range" = some none)
    (z4 : nsIn K mainGlobals "isinstance" = some none) (z5 : nsIn K mainGlobals "repr" = some none) (z6 : nsIn K mainGlobals "list" = some none) (z7 : nsIn K mainGlobals "dict" = some none) (z8 : nsIn K mainGlobals "ValueError" = some none) :
    Txt P K mg (fun i => ([c0, c1, c2, c3, c4, c5, c6, c7, c8, c9, c10, c11, c12] : List Addr).getD i 0) := by
  unfold kitsIn at kt
  simp only [Bool.and_eq_true, List.all_eq_true, List.mem_range, beq_iff_eq] at kt
  obtain ⟨k1, k2⟩ := kt
  have nn := fun x (z : nsIn K mainGlobals x = some none) => PySem.W.mg_none_of X G z
  refine ⟨x0, x1, x2, x3, x4, x5, x6, x7, x8, x9, x10, x11, x12, fun i j hi hj => ?_, fun i hi => (k1 i hi).2, fun i hi => k2 i hi, nn _ z0, nn _ z1, nn _ z2, nn _ z3, nn _ z4, nn _ z5, nn _ z6, nn _ z7, nn _ z8⟩
  rw [(k1 i hi).1 j hj]
  by_cases e : i = j
  · subst e
    simp
  · have : Nat.beq i j = false := by
      cases q : Nat.beq i j with
      | false => rfl
      | true => exact absurd (Nat.eq_of_beq_eq_true q) e
    rw [this]
    simp [e]
end
end L2.Hx

/-! #### RF -/
set_option Elab.async false
set_option linter.all false
set_option maxRecDepth 100000
set_option maxHeartbeats 4000000
open PySem PySem.W PyProof.Rows L2 L2.Hx in
set_option maxRecDepth 100000 in
set_option maxHeartbeats 0 in
theorem PySem.Challenge.cw_heldnames_k01_errors_holds : PySem.Challenge.rw_heldnames_k01_errors.Holds := by
  w_on; o_law; k_head; (case hw => w_witness2)
  k_fill
  refine L2.Hx.walkG (l := PySem.Challenge.rw_heldnames_k01_errors) (n := 63) (k := 3) (x := "_law_script") (sp := fun K => L2.Hx.spLaw K) rfl (by decide) rfl ⟨rfl, by decide, by decide⟩ (fun w h Y => PySem.W.kIn_of Y) ?F (fun K H a ns hl hO hS => ⟨a, ns, rfl, hS, fun _ => rfl⟩)
  case F =>
    intro w mg fa h KX G hmg
    refine' law_mk (P := PySem.Challenge.pw_heldnames_k01_errors) (txt_mk KX G
      (xcls_mk syn_InvalidList KX G ?m0 (sup_mk ?lC0 ?hb0 ?su0 ?sb0 ?se0 ?ns0 ?nt0 ?lf0 ?ci0 ?lcd0 ?hv0 ?hf0 ?lcc0) ?lT0 ?iC0 ?tC0 ?kC0 ?sa0 ?nf0 (exc_mk ?ga0 ?gg0 ?ex0 ?hd0 ?ha0 ?hn0 ?ht0 ?hm0))
      (xcls_mk syn_InvalidItem KX G ?m1 (sup_mk ?lC1 ?hb1 ?su1 ?sb1 ?se1 ?ns1 ?nt1 ?lf1 ?ci1 ?lcd1 ?hv1 ?hf1 ?lcc1) ?lT1 ?iC1 ?tC1 ?kC1 ?sa1 ?nf1 (exc_mk ?ga1 ?gg1 ?ex1 ?hd1 ?ha1 ?hn1 ?ht1 ?hm1))
      (xcls_mk syn_InvalidProgram KX G ?m2 (sup_mk ?lC2 ?hb2 ?su2 ?sb2 ?se2 ?ns2 ?nt2 ?lf2 ?ci2 ?lcd2 ?hv2 ?hf2 ?lcc2) ?lT2 ?iC2 ?tC2 ?kC2 ?sa2 ?nf2 (exc_mk ?ga2 ?gg2 ?ex2 ?hd2 ?ha2 ?hn2 ?ht2 ?hm2))
      (xcls_mk syn_InvalidWord KX G ?m3 (sup_mk ?lC3 ?hb3 ?su3 ?sb3 ?se3 ?ns3 ?nt3 ?lf3 ?ci3 ?lcd3 ?hv3 ?hf3 ?lcc3) ?lT3 ?iC3 ?tC3 ?kC3 ?sa3 ?nf3 (exc_mk ?ga3 ?gg3 ?ex3 ?hd3 ?ha3 ?hn3 ?ht3 ?hm3))
      (xcls_mk syn_InvalidPlace KX G ?m4 (sup_mk ?lC4 ?hb4 ?su4 ?sb4 ?se4 ?ns4 ?nt4 ?lf4 ?ci4 ?lcd4 ?hv4 ?hf4 ?lcc4) ?lT4 ?iC4 ?tC4 ?kC4 ?sa4 ?nf4 (exc_mk ?ga4 ?gg4 ?ex4 ?hd4 ?ha4 ?hn4 ?ht4 ?hm4))
      (xcls_mk syn_InvalidRun KX G ?m5 (sup_mk ?lC5 ?hb5 ?su5 ?sb5 ?se5 ?ns5 ?nt5 ?lf5 ?ci5 ?lcd5 ?hv5 ?hf5 ?lcc5) ?lT5 ?iC5 ?tC5 ?kC5 ?sa5 ?nf5 (exc_mk ?ga5 ?gg5 ?ex5 ?hd5 ?ha5 ?hn5 ?ht5 ?hm5))
      (xcls_mk syn_InvalidCells KX G ?m6 (sup_mk ?lC6 ?hb6 ?su6 ?sb6 ?se6 ?ns6 ?nt6 ?lf6 ?ci6 ?lcd6 ?hv6 ?hf6 ?lcc6) ?lT6 ?iC6 ?tC6 ?kC6 ?sa6 ?nf6 (exc_mk ?ga6 ?gg6 ?ex6 ?hd6 ?ha6 ?hn6 ?ht6 ?hm6))
      (xcls_mk syn_InvalidText KX G ?m7 (sup_mk ?lC7 ?hb7 ?su7 ?sb7 ?se7 ?ns7 ?nt7 ?lf7 ?ci7 ?lcd7 ?hv7 ?hf7 ?lcc7) ?lT7 ?iC7 ?tC7 ?kC7 ?sa7 ?nf7 (exc_mk ?ga7 ?gg7 ?ex7 ?hd7 ?ha7 ?hn7 ?ht7 ?hm7))
      (xcls_mk syn_InvalidName KX G ?m8 (sup_mk ?lC8 ?hb8 ?su8 ?sb8 ?se8 ?ns8 ?nt8 ?lf8 ?ci8 ?lcd8 ?hv8 ?hf8 ?lcc8) ?lT8 ?iC8 ?tC8 ?kC8 ?sa8 ?nf8 (exc_mk ?ga8 ?gg8 ?ex8 ?hd8 ?ha8 ?hn8 ?ht8 ?hm8))
      (xcls_mk syn_TakenName KX G ?m9 (sup_mk ?lC9 ?hb9 ?su9 ?sb9 ?se9 ?ns9 ?nt9 ?lf9 ?ci9 ?lcd9 ?hv9 ?hf9 ?lcc9) ?lT9 ?iC9 ?tC9 ?kC9 ?sa9 ?nf9 (exc_mk ?ga9 ?gg9 ?ex9 ?hd9 ?ha9 ?hn9 ?ht9 ?hm9))
      (xcls_mk syn_UnknownName KX G ?m10 (sup_mk ?lC10 ?hb10 ?su10 ?sb10 ?se10 ?ns10 ?nt10 ?lf10 ?ci10 ?lcd10 ?hv10 ?hf10 ?lcc10) ?lT10 ?iC10 ?tC10 ?kC10 ?sa10 ?nf10 (exc_mk ?ga10 ?gg10 ?ex10 ?hd10 ?ha10 ?hn10 ?ht10 ?hm10))
      (ncls_mk KX G ?m11 (sup_mk ?lC11 ?hb11 ?su11 ?sb11 ?se11 ?ns11 ?nt11 ?lf11 ?ci11 ?lcd11 ?hv11 ?hf11 ?lcc11) ?iC11 ?tC11 ?kC11 (exc_mk ?ga11 ?gg11 ?ex11 ?hd11 ?ha11 ?hn11 ?ht11 ?hm11))
      ⟨?xF, PySem.W.mg_of KX G ?m12, ?kF, (exc_mk ?ga12 ?gg12 ?ex12 ?hd12 ?ha12 ?hn12 ?ht12 ?hm12)⟩
      ?kt ?z0 ?z1 ?z2 ?z3 ?z4 ?z5 ?z6 ?z7 ?z8) hmg
      (def_mk KX G ?da0 ?dl0 ?dc0 ?dk0)
      (def_mk KX G ?da1 ?dl1 ?dc1 ?dk1)
      (def_mk KX G ?da2 ?dl2 ?dc2 ?dk2)
      (def_mk KX G ?da3 ?dl3 ?dc3 ?dk3)
      (def_mk KX G ?da4 ?dl4 ?dc4 ?dk4)
      (def_mk KX G ?da5 ?dl5 ?dc5 ?dk5)
      (def_mk KX G ?da6 ?dl6 ?dc6 ?dk6)
      (def_mk KX G ?da7 ?dl7 ?dc7 ?dk7)
      (def_mk KX G ?da8 ?dl8 ?dc8 ?dk8)
      (def_mk KX G ?da9 ?dl9 ?dc9 ?dk9)
    (case m0 => k_is)
    (case iC0 => k_is)
    (case lf0 => k_is)
    (case lC0 => k_is)
    (case hb0 => rfl)
    (case su0 => ks_is)
    (case sb0 => k_is)
    (case se0 => k_is)
    (case ns0 => k_is)
    (case nt0 => k_is)
    (case ci0 => k_is)
    (case lcd0 => k_is)
    (case hv0 => rfl)
    (case hf0 => rfl)
    (case lcc0 => k_is)
    (case tC0 => k_is)
    (case kC0 => k_is)
    (case lT0 => k_is)
    (case sa0 => k_is)
    (case nf0 => k_is)
    (case ga0 => k_is)
    (case gg0 => k_is)
    (case ex0 => k_is)
    (case hd0 => k_is)
    (case ha0 => k_is)
    (case hn0 => k_is)
    (case ht0 => k_is)
    (case hm0 => k_is)
    (case m1 => k_is)
    (case iC1 => k_is)
    (case lf1 => k_is)
    (case lC1 => k_is)
    (case hb1 => rfl)
    (case su1 => ks_is)
    (case sb1 => k_is)
    (case se1 => k_is)
    (case ns1 => k_is)
    (case nt1 => k_is)
    (case ci1 => k_is)
    (case lcd1 => k_is)
    (case hv1 => rfl)
    (case hf1 => rfl)
    (case lcc1 => k_is)
    (case tC1 => k_is)
    (case kC1 => k_is)
    (case lT1 => k_is)
    (case sa1 => k_is)
    (case nf1 => k_is)
    (case ga1 => k_is)
    (case gg1 => k_is)
    (case ex1 => k_is)
    (case hd1 => k_is)
    (case ha1 => k_is)
    (case hn1 => k_is)
    (case ht1 => k_is)
    (case hm1 => k_is)
    (case m2 => k_is)
    (case iC2 => k_is)
    (case lf2 => k_is)
    (case lC2 => k_is)
    (case hb2 => rfl)
    (case su2 => ks_is)
    (case sb2 => k_is)
    (case se2 => k_is)
    (case ns2 => k_is)
    (case nt2 => k_is)
    (case ci2 => k_is)
    (case lcd2 => k_is)
    (case hv2 => rfl)
    (case hf2 => rfl)
    (case lcc2 => k_is)
    (case tC2 => k_is)
    (case kC2 => k_is)
    (case lT2 => k_is)
    (case sa2 => k_is)
    (case nf2 => k_is)
    (case ga2 => k_is)
    (case gg2 => k_is)
    (case ex2 => k_is)
    (case hd2 => k_is)
    (case ha2 => k_is)
    (case hn2 => k_is)
    (case ht2 => k_is)
    (case hm2 => k_is)
    (case m3 => k_is)
    (case iC3 => k_is)
    (case lf3 => k_is)
    (case lC3 => k_is)
    (case hb3 => rfl)
    (case su3 => ks_is)
    (case sb3 => k_is)
    (case se3 => k_is)
    (case ns3 => k_is)
    (case nt3 => k_is)
    (case ci3 => k_is)
    (case lcd3 => k_is)
    (case hv3 => rfl)
    (case hf3 => rfl)
    (case lcc3 => k_is)
    (case tC3 => k_is)
    (case kC3 => k_is)
    (case lT3 => k_is)
    (case sa3 => k_is)
    (case nf3 => k_is)
    (case ga3 => k_is)
    (case gg3 => k_is)
    (case ex3 => k_is)
    (case hd3 => k_is)
    (case ha3 => k_is)
    (case hn3 => k_is)
    (case ht3 => k_is)
    (case hm3 => k_is)
    (case m4 => k_is)
    (case iC4 => k_is)
    (case lf4 => k_is)
    (case lC4 => k_is)
    (case hb4 => rfl)
    (case su4 => ks_is)
    (case sb4 => k_is)
    (case se4 => k_is)
    (case ns4 => k_is)
    (case nt4 => k_is)
    (case ci4 => k_is)
    (case lcd4 => k_is)
    (case hv4 => rfl)
    (case hf4 => rfl)
    (case lcc4 => k_is)
    (case tC4 => k_is)
    (case kC4 => k_is)
    (case lT4 => k_is)
    (case sa4 => k_is)
    (case nf4 => k_is)
    (case ga4 => k_is)
    (case gg4 => k_is)
    (case ex4 => k_is)
    (case hd4 => k_is)
    (case ha4 => k_is)
    (case hn4 => k_is)
    (case ht4 => k_is)
    (case hm4 => k_is)
    (case m5 => k_is)
    (case iC5 => k_is)
    (case lf5 => k_is)
    (case lC5 => k_is)
    (case hb5 => rfl)
    (case su5 => ks_is)
    (case sb5 => k_is)
    (case se5 => k_is)
    (case ns5 => k_is)
    (case nt5 => k_is)
    (case ci5 => k_is)
    (case lcd5 => k_is)
    (case hv5 => rfl)
    (case hf5 => rfl)
    (case lcc5 => k_is)
    (case tC5 => k_is)
    (case kC5 => k_is)
    (case lT5 => k_is)
    (case sa5 => k_is)
    (case nf5 => k_is)
    (case ga5 => k_is)
    (case gg5 => k_is)
    (case ex5 => k_is)
    (case hd5 => k_is)
    (case ha5 => k_is)
    (case hn5 => k_is)
    (case ht5 => k_is)
    (case hm5 => k_is)
    (case m6 => k_is)
    (case iC6 => k_is)
    (case lf6 => k_is)
    (case lC6 => k_is)
    (case hb6 => rfl)
    (case su6 => ks_is)
    (case sb6 => k_is)
    (case se6 => k_is)
    (case ns6 => k_is)
    (case nt6 => k_is)
    (case ci6 => k_is)
    (case lcd6 => k_is)
    (case hv6 => rfl)
    (case hf6 => rfl)
    (case lcc6 => k_is)
    (case tC6 => k_is)
    (case kC6 => k_is)
    (case lT6 => k_is)
    (case sa6 => k_is)
    (case nf6 => k_is)
    (case ga6 => k_is)
    (case gg6 => k_is)
    (case ex6 => k_is)
    (case hd6 => k_is)
    (case ha6 => k_is)
    (case hn6 => k_is)
    (case ht6 => k_is)
    (case hm6 => k_is)
    (case m7 => k_is)
    (case iC7 => k_is)
    (case lf7 => k_is)
    (case lC7 => k_is)
    (case hb7 => rfl)
    (case su7 => ks_is)
    (case sb7 => k_is)
    (case se7 => k_is)
    (case ns7 => k_is)
    (case nt7 => k_is)
    (case ci7 => k_is)
    (case lcd7 => k_is)
    (case hv7 => rfl)
    (case hf7 => rfl)
    (case lcc7 => k_is)
    (case tC7 => k_is)
    (case kC7 => k_is)
    (case lT7 => k_is)
    (case sa7 => k_is)
    (case nf7 => k_is)
    (case ga7 => k_is)
    (case gg7 => k_is)
    (case ex7 => k_is)
    (case hd7 => k_is)
    (case ha7 => k_is)
    (case hn7 => k_is)
    (case ht7 => k_is)
    (case hm7 => k_is)
    (case m8 => k_is)
    (case iC8 => k_is)
    (case lf8 => k_is)
    (case lC8 => k_is)
    (case hb8 => rfl)
    (case su8 => ks_is)
    (case sb8 => k_is)
    (case se8 => k_is)
    (case ns8 => k_is)
    (case nt8 => k_is)
    (case ci8 => k_is)
    (case lcd8 => k_is)
    (case hv8 => rfl)
    (case hf8 => rfl)
    (case lcc8 => k_is)
    (case tC8 => k_is)
    (case kC8 => k_is)
    (case lT8 => k_is)
    (case sa8 => k_is)
    (case nf8 => k_is)
    (case ga8 => k_is)
    (case gg8 => k_is)
    (case ex8 => k_is)
    (case hd8 => k_is)
    (case ha8 => k_is)
    (case hn8 => k_is)
    (case ht8 => k_is)
    (case hm8 => k_is)
    (case m9 => k_is)
    (case iC9 => k_is)
    (case lf9 => k_is)
    (case lC9 => k_is)
    (case hb9 => rfl)
    (case su9 => ks_is)
    (case sb9 => k_is)
    (case se9 => k_is)
    (case ns9 => k_is)
    (case nt9 => k_is)
    (case ci9 => k_is)
    (case lcd9 => k_is)
    (case hv9 => rfl)
    (case hf9 => rfl)
    (case lcc9 => k_is)
    (case tC9 => k_is)
    (case kC9 => k_is)
    (case lT9 => k_is)
    (case sa9 => k_is)
    (case nf9 => k_is)
    (case ga9 => k_is)
    (case gg9 => k_is)
    (case ex9 => k_is)
    (case hd9 => k_is)
    (case ha9 => k_is)
    (case hn9 => k_is)
    (case ht9 => k_is)
    (case hm9 => k_is)
    (case m10 => k_is)
    (case iC10 => k_is)
    (case lf10 => k_is)
    (case lC10 => k_is)
    (case hb10 => rfl)
    (case su10 => ks_is)
    (case sb10 => k_is)
    (case se10 => k_is)
    (case ns10 => k_is)
    (case nt10 => k_is)
    (case ci10 => k_is)
    (case lcd10 => k_is)
    (case hv10 => rfl)
    (case hf10 => rfl)
    (case lcc10 => k_is)
    (case tC10 => k_is)
    (case kC10 => k_is)
    (case lT10 => k_is)
    (case sa10 => k_is)
    (case nf10 => k_is)
    (case ga10 => k_is)
    (case gg10 => k_is)
    (case ex10 => k_is)
    (case hd10 => k_is)
    (case ha10 => k_is)
    (case hn10 => k_is)
    (case ht10 => k_is)
    (case hm10 => k_is)
    (case m11 => k_is)
    (case iC11 => k_is)
    (case lf11 => k_is)
    (case lC11 => k_is)
    (case hb11 => rfl)
    (case su11 => ks_is)
    (case sb11 => k_is)
    (case se11 => k_is)
    (case ns11 => k_is)
    (case nt11 => k_is)
    (case ci11 => k_is)
    (case lcd11 => k_is)
    (case hv11 => rfl)
    (case hf11 => rfl)
    (case lcc11 => k_is)
    (case tC11 => k_is)
    (case kC11 => k_is)
    (case ga11 => k_is)
    (case gg11 => k_is)
    (case ex11 => k_is)
    (case hd11 => k_is)
    (case ha11 => k_is)
    (case hn11 => k_is)
    (case ht11 => k_is)
    (case hm11 => k_is)
    (case m12 => k_is)
    (case xF => k_exc)
    (case kF => k_is)
    (case ga12 => k_is)
    (case gg12 => k_is)
    (case ex12 => k_is)
    (case hd12 => k_is)
    (case ha12 => k_is)
    (case hn12 => k_is)
    (case ht12 => k_is)
    (case hm12 => k_is)
    (case z0 => k_is)
    (case z1 => k_is)
    (case z2 => k_is)
    (case z3 => k_is)
    (case z4 => k_is)
    (case z5 => k_is)
    (case z6 => k_is)
    (case z7 => k_is)
    (case z8 => k_is)
    (case da0 => k_is)
    (case dl0 => k_is)
    (case dc0 => k_is)
    (case dk0 => k_is)
    (case da1 => k_is)
    (case dl1 => k_is)
    (case dc1 => k_is)
    (case dk1 => k_is)
    (case da2 => k_is)
    (case dl2 => k_is)
    (case dc2 => k_is)
    (case dk2 => k_is)
    (case da3 => k_is)
    (case dl3 => k_is)
    (case dc3 => k_is)
    (case dk3 => k_is)
    (case da4 => k_is)
    (case dl4 => k_is)
    (case dc4 => k_is)
    (case dk4 => k_is)
    (case da5 => k_is)
    (case dl5 => k_is)
    (case dc5 => k_is)
    (case dk5 => k_is)
    (case da6 => k_is)
    (case dl6 => k_is)
    (case dc6 => k_is)
    (case dk6 => k_is)
    (case da7 => k_is)
    (case dl7 => k_is)
    (case dc7 => k_is)
    (case dk7 => k_is)
    (case da8 => k_is)
    (case dl8 => k_is)
    (case dc8 => k_is)
    (case dk8 => k_is)
    (case da9 => k_is)
    (case dl9 => k_is)
    (case dc9 => k_is)
    (case dk9 => k_is)
    (case kt => kernel_rfl)
