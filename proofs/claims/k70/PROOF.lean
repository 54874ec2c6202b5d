import PyProof.Rows.All
import Wide.All
import OpenK.AllK
import Wide.FinOn
import HandS.ForMost
import HandS.Wide
import HandS.IsInst
import HandS.EndBits
import HandS.Flow
import PyProof.ReprRoads
import HandS.Style
import HandS.Strs
import HandS.Zip
import PyProof.StrOps2
import PyProof.StrLawsRepr
import PyProof.ReprLen
import HandS.Walk
import HandS.Codes
import HandS.Set
import PyProof.Rows.SortShellAny
import HandS.SetFor
import HandS.Star
import PyProof.SetRoads
import PySem.Challenge.RW_ghosttext_k70_keys_of_words
set_option Elab.async false
set_option linter.all false
set_option maxRecDepth 100000
set_option maxHeartbeats 4000000
/-! Defs whose promise also leans on "nothing is being shown": what repr asks. -/
namespace Gd
open PySem PySem.Spec PyProof.Rows L2

structure GFn (P : Program) (w : World) (K : PySem.W.Frag) (mg : Str → Option Value)
    (base : Heap) (CX : CXT) (k : Nat) (f : Addr) (fd : FuncData) (ps : List Str) (sp : Sp) : Prop where
  many : ∀ vs H Q E, sp vs H Q E → vs.length = ps.length
  go : ∀ (A : Around) (outer : List Env) (s : Shared) (H : Hp) (args : Args) (us : List Value) (vs : List V) (Q : VK) (E : XK),
    A.guards = some [] → Room k A → Env0 P w K mg base A outer s H → BindsTo s fd args (ps.zip us) →
    Vals vs us → sp vs H Q E → codeAny (model P w) A (.call (.ref f) args) (CR CX outer P w H s Q E) s

section
variable {P : Program} {w : World} {K : PySem.W.Frag} {mg : Str → Option Value} {base : Heap}
variable {CX : CXT} {k j : Nat} {f : Addr} {fd : FuncData} {ps N : List Str} {sp : Sp}

theorem GFn.of (F : FnOk P w K mg base CX k f fd ps sp) : GFn P w K mg base CX k f fd ps sp :=
  ⟨F.len, fun A outer s H args us vs Q E _ hr => F.run A outer s H args us vs Q E hr⟩
theorem GFn.up (F : GFn P w K mg base CX j f fd ps sp) (h : j ≤ k) : GFn P w K mg base CX k f fd ps sp :=
  ⟨F.many, fun A outer s H args us vs Q E g hr => F.go A outer s H args us vs Q E g (hr.mono h)⟩

/-- a def's body, where nothing is being shown -/
theorem GFn.mk' {x qual : Str} {st : Stmt} (F : Fun K x qual st f fd) (S : FnScope N ps (defScope st))
    (len : ∀ vs H Q E, sp vs H Q E → vs.length = ps.length)
    (body : ∀ (cdv : Value) (A : Around) (outer : List Env) (s : Shared) (H : Hp) (vs : List V) (Q : VK) (E : XK),
      A.guards = some [] → Room k (A.deeper (envOfC qual (defScope st) s.heap.objs.size f cdv)) → sp vs H Q E →
      ∃ t, PSs (cxOf CX0 P w K mg base N qual (defScope st) f cdv A outer s H E).nox (defBody st) t ∧
        t { nx := fun _ H' => Q .non H', rt := Q } (start N vs) H) :
    GFn P w K mg base CX0 (k + 1) f fd ps sp := by
  obtain ⟨oc, od, kV, doc, pm, an, cdv, ct, osl, rfl, lk, hcd⟩ := F.ex
  refine ⟨len, fun A outer s H args us vs Q E gd hr e0 hb r hsp => ?_⟩
  have hl := len _ _ _ _ hsp
  have hK : K.In s.heap := e0.mod.kin.keeps fun b o e => (e0.bs b o e).1
  have hlim : s.heap.NoLimit := e0.mod.nolimit.keeps fun b o e => (e0.bs b o e).1
  have kinds : ∀ y ∈ ps.zip us, (defScope st).names.lookup y.1 = some .local ∨
      ((defScope st).names.lookup y.1 = some .cell ∧
        ((cellsFrom (s.heap.objs.size + 1) (defScope st).names []).lookup y.1).isSome = true) := by
    rintro ⟨n, v⟩ hy
    rcases S.par n (List.of_mem_zip hy).1 with q | q
    · exact .inl q
    · exact .inr ⟨q, PySem.W.cellsFrom_some _ _ _ (.inl q)⟩
  refine codeAny_call_function hr.depth (hK _ _ lk) rfl S.co S.gen rfl (PySem.W.codeRec_of hK hcd) (hb _ _ _ _ ?_)
  refine wpAny_newFunctionEnv_cells S.kind kinds fun env he s1 x => ?_
  subst he
  refine ⟨hlim.keeps x.toInCall.keep, codeAny_func ?_⟩
  obtain ⟨t, ht, hq⟩ := body cdv A outer s H vs Q E gd (hr.deeper _) hsp
  have I := inv_start (CX := CX0) (P := P) (mg := mg) (E := E) S hr.hd e0 hl r x
  refine wpAny_mono (ht.nox.run [] s1 (start N vs) H _ I hq) (fun fl s' hs => ?_) fun e s' hs => hs
  cases fl with
  | ret u =>
    obtain ⟨v, σ', H', J, rv, q⟩ := hs
    exact ⟨v, H', J.os, J.bare, J.base, J.hok, rv, q⟩
  | next =>
    obtain ⟨σ', H', J, q⟩ := hs
    exact ⟨V.non, H', J.os, J.bare, J.base, J.hok, rfl, q⟩
  | brk =>
    obtain ⟨_, _, _, q⟩ := hs
    exact False.elim q
  | cont =>
    obtain ⟨_, _, _, q⟩ := hs
    exact False.elim q
end

section
variable {X : Cx} {CX : CXT} {k : Nat} {f : Addr} {fd : FuncData} {ps : List Str} {sp : Sp}
variable {dvs : List V} {ds : List Value} {E : XK}
theorem run_g {pins : List (Addr × Obj)} {σ : L2.St} {H : Hp} {s : Shared} {Q : VK} {us : List Value} {vs : List V}
    (F : GFn X.prog X.w X.K X.mg X.base CX k f fd ps sp) (hg : X.A.guards = some []) (hr : Room k X.A)
    (hb : Binds X.K fd ps ds) (hd : Vals dvs ds) (hx : Passes CX X E) (I : Inv X pins σ H s) (r : Vals vs us)
    (h : sp (vs ++ dvs) H Q E) : wpAny (model X.prog X.w) X.A (call (.ref f) us) (EP X pins σ Q) X.xe s := by
  have r2 := r.append hd
  have hl : (us ++ ds).length = ps.length := by
    rw [← r2.length]
    exact F.many _ _ _ _ h
  refine wpAny_call (codeAny_mono (F.go X.A X.stack s H ⟨us, []⟩ _ _ Q E hg hr I.env0 (hb s us I.kIn hl) r2 h) ?_)
  intro r s' hq
  cases r with
  | error e => exact hx pins σ H s e s' I hq
  | ok fl =>
    cases fl with
    | ret u => exact I.after hq
    | next => exact hq.elim
    | brk => exact hq.elim
    | cont => exact hq.elim
theorem pe_callG {x : Str} {p pos : Pos} {e : Expr} {es : List Expr} {t : TA}
    (F : GFn X.prog X.w X.K X.mg X.base CX k f fd ps sp) (gd : X.A.guards = some []) (hr : Room k X.A) (hg : Gl X x)
    (hm : X.mg x = some (.ref f)) (hk : PySem.W.keepIn X.K (.ref f) = true) (hb : Binds X.K fd ps ds) (hd : Vals dvs ds)
    (hx : Passes CX X E) (ha : PA X (e :: es) t) (hdb : (x == ("__debug__" : Str)) = false := by decide)
    (he : starEach (e :: es) X.env = (false, eval e X.env) :: starEach es X.env := by rfl)
    (hpl : (backTo pos (starEach es X.env)).any (·.1) = false := by rfl) :
    PE X (.Call (.Name x p) (e :: es) [] pos) (tCall sp dvs E t) := by
  refine ⟨fun pins s σ H Q I h => wpAny_Call_Name_kw (ld_glob I hg hm ?_ hdb)⟩
  refine PySem.W.callWith_K (h₀ := X.base) I.ok.mod.kin hk (thn (ha.run pos pins s σ H _ I h) ?_) he hpl
  exact fun us s1 ⟨vs, H1, I1, r, q⟩ => ⟨I1.kIn, run_g F gd hr hb hd hx I1 r q⟩
end

/-! ### the law's own call -/
theorem law_callG {P : Program} {w : World} {K : PySem.W.Frag} {mg mb : Str → Option Value} {k : Nat} {fa a : Addr}
    {fd : FuncData} {x : Str} {sp : Sp} {s1 : Shared} {vs : List Value} {ns : List Int} (KX : K.In s1.heap)
    (hns : s1.heap.Ns mainGlobals mg) (hb : s1.heap.Ns builtinsNs mb) (hbb : ∀ x : Str, x ≠ "__name__" → mb x = bootBuiltins x)
    (hlim : s1.heap.NoLimit) (hg : s1.gens = #[]) (ha : s1.heap.get? a = some { cls := .type "list", data := .seq vs.toArray })
    (hi : IntsAre vs ns) (hl : ns.length ≤ sizeLine) (hr : Room k callerA)
    (F : ∀ base : Heap, K.In base → base.Ns mainGlobals mg → GFn P w K mg base CX0 k fa fd [x] sp)
    (hbind : ∀ (s : Shared) (u : Value), BindsTo s fd ⟨[u], []⟩ [(x, u)])
    (hsp : ∀ H : Hp, Only H → SqL K H a (ns.map V.int) → sp [.ref a] H (fun v _ => v = .bl true) fun _ _ _ => False) :
    codeAny (model P w) callerA (.call (.ref fa) ⟨[.ref a], []⟩)
      (fun r s' => r = .ok (.ret (.bool true)) ∧ OldK s1.heap s'.heap ∧ s'.os = s1.os ∧ AllBare s'.gens) s1 := by
  have rv := vals_ints hi
  have lenV := hi.length
  have core : ∀ H : Hp, Only H → SqL K H a (ns.map V.int) → HOk P w H s1.heap → (∀ b, H b ≠ none → b = a) →
      (H a ≠ none → K.lookup a = none) → codeAny (model P w) callerA (.call (.ref fa) ⟨[.ref a], []⟩)
        (fun r s' => r = .ok (.ret (.bool true)) ∧ OldK s1.heap s'.heap ∧ s'.os = s1.os ∧ AllBare s'.gens) s1 := by
    intro H hO hS hok hA hK
    have one : ∀ {b : Addr}, H b ≠ none → b = a := fun {b} z => hA b z
    have noA : ∀ {b : Addr} {o : Obj} {es : Array DictEntry} {ep : Nat}, s1.heap.get? b = some o → o.data = .dict es ep → H b = none := by
      intro b o es ep e d
      cases q : H b with
      | none => rfl
      | some u =>
        have e' : b = a := one (by rw [q]; simp)
        subst e'
        rw [ha] at e; cases e
        exact absurd d (by intro z; cases z)
    have nsK : ∀ {b : Addr} {m : Str → Option Value}, s1.heap.Ns b m → (hidT s1.heap H).Ns b m := by
      rintro b m ⟨o, es, ep, e, d, r⟩
      exact ⟨o, es, ep, hidT_get e (noA e d), d, r⟩
    have hKb : K.In (hidT s1.heap H) := by
      intro b o e
      refine hidT_get (KX b o e) ?_
      cases q : H b with
      | none => rfl
      | some u =>
        have e' : b = a := one (by rw [q]; simp)
        subst e'
        rw [hK (by rw [q]; simp)] at e; cases e
    have hM : Mod K mg (hidT s1.heap H) :=
      ⟨hKb, nsK hns, ⟨mb, nsK hb, hbb⟩, let ⟨mc, h1, h2⟩ := hlim; ⟨mc, nsK h1, h2⟩⟩
    have e0 : Env0 P w K mg (hidT s1.heap H) callerA [] s1 H :=
      ⟨rfl, hM, fun b o e => of_hidT e, Nat.le_of_eq (hidT_size _ _), trivial,
        fun b hb => absurd (show b ∈ ([] : List Addr) from hb) (by simp), hok, .of_eq hg⟩
    have G := F _ hKb (nsK hns)
    refine codeAny_mono (G.go callerA [] s1 H ⟨[.ref a], []⟩ [.ref a] [.ref a] _ _ rfl hr e0 (hbind s1 (.ref a)) (.cons rfl .nil) (hsp H hO hS)) ?_
    intro r s' h
    cases r with
    | error e => exact False.elim h
    | ok fl =>
      cases fl with
      | next => exact h.elim
      | brk => exact h.elim
      | cont => exact h.elim
      | ret u =>
        obtain ⟨v, H', os, bare, un, hok', r', q⟩ := h
        obtain rfl : v = .bl true := q
        obtain rfl : u = Value.bool true := r'
        refine ⟨rfl, OldK.of_keep fun b o e => ?_, os, bare⟩
        cases q : H b with
        | none =>
          refine un.keep b o e q ?_ (by simp)
          intro z
          exact absurd (show b ∈ ([] : List Addr) from z) (by simp)
        | some u =>
          rcases hO b with z | ⟨ob, xs, z⟩
          · rw [q] at z; cases z
          · obtain ⟨e1, _⟩ := hok b _ z
            obtain ⟨e2, _⟩ := hok' b _ (un.frzs b ob _ z)
            rw [e] at e1; cases e1
            exact e2
  cases hk : K.lookup a with
  | some o =>
    have e := KX a o hk
    rw [ha] at e
    cases e
    refine core (fun _ => none) (fun _ => .inl rfl) (.inr ⟨_, vs.toArray, _, hk, rfl, rfl, rfl, ?_, by simpa using rv⟩) ?_ (fun b z => absurd rfl z) fun z => absurd rfl z
    · rw [List.size_toArray, lenV]
      exact hl
    · intro b u z
      have z' : (none : Option HO) = some u := z
      cases z'
  | none =>
    let Hs : Hp := fun b => if b = a then some (.frz { cls := .type "list", data := .seq vs.toArray } (.lst (ns.map V.int))) else none
    have hin : ∀ {b}, b = a → Hs b = some (.frz { cls := .type "list", data := .seq vs.toArray } (.lst (ns.map V.int))) := fun e => if_pos e
    have hout : ∀ {b}, b ≠ a → Hs b = none := fun e => if_neg e
    refine core Hs (fun b => ?_) (.inl (.inr ⟨_, hin rfl⟩)) (fun b u z => ?_) (fun b z => ?_) fun _ => hk
    · by_cases e : b = a
      · exact .inr ⟨_, _, hin e⟩
      · exact .inl (hout e)
    · by_cases e : b = a
      · rw [hin e] at z
        cases z
        subst e
        exact ⟨ha, by rw [List.length_map]; exact hl, vs, _, rv, ha⟩
      · rw [hout e] at z
        cases z
    · by_cases e : b = a
      · exact e
      · exact absurd (hout e) z

/-- the head's goal, from the law's promise -/
theorem walk_ofG {l : PySem.W.OpenLaw} {n k : Nat} {q : Program} {loose : List Str} {XP : (Str → Option Value) → Heap → Prop}
    {YP : World → Heap → Prop} {d : DefRec} {K : Params → PySem.W.Frag} {sp : World → Sp} {x : Str}
    (hn : l.most = some n) (hn2 : n ≤ sizeLine) (hdf : d.params.defaults = []) (hr : Room k callerA)
    (hY : ∀ (w : World) (h : Heap), YP w h → (K w.params).In h)
    (F : ∀ (w : World) (mg : Str → Option Value) (fa : Addr) (h : Heap), (K w.params).In h → h.Ns mainGlobals mg →
      mg d.name = some (.ref fa) → ∃ fd : FuncData, (∀ (s : Shared) (u : Value), BindsTo s fd ⟨[u], []⟩ [(x, u)]) ∧
        ∀ base : Heap, (K w.params).In base → base.Ns mainGlobals mg → GFn l.prog w (K w.params) mg base CX0 k fa fd [x] (sp w))
    (hsp : ∀ (w : World) (H : Hp) (a : Addr) (ns : List Int), ns.length ≤ n → (∀ z ∈ ns, Builtin.Int.intBits z ≤ 1048576) →
      Only H → SqL (K w.params) H a (ns.map V.int) → sp w [.ref a] H (fun v _ => v = .bl true) fun _ _ _ => False) :
    PySem.W.WalkO q loose XP YP l.row.toRowW d [] (fun f vs => PySem.call f vs) := by
  refine Att.attach_callB hn hdf fun w s₀ s₁ mg mb fa o pm cd doc a vs ns G Y ho hd hcd hmg hobj hints hlen hbits hg => ?_
  have KX := hY w _ Y
  obtain ⟨fd, hb, hF⟩ := F w mg fa _ KX G.T.g hmg
  exact law_callG KX G.T.g G.T.b G.T.builtins G.T.nolimit hg hobj hints (Nat.le_trans hlen hn2) hr hF hb
    fun H hO hS => hsp w H a ns hlen hbits hO hS
end Gd
/-! Operators told by the values' kinds: one reading for each sign. -/
namespace Gd
open PySem PySem.Spec PyProof.Rows L2

abbrev tl (x : Str) : List Nat := x.cps.toList

/-! ### the readings -/
def uAdd (K : PySem.W.Frag) : R2 := fun x y H Q => match x, y with
  | .int i, .int j => Q (.int (i + j)) H
  | .str a, .str b => a.length + b.length ≤ sizeLine ∧ Q (.str (a ++ b)) H
  | .ref a, .ref b => (∃ xs zs, SqL K H a xs ∧ SqL K H b zs ∧ xs.length + zs.length ≤ sizeLine ∧
      ∀ p, H p = none → Q (.ref p) (upd H p (.lst (xs ++ zs)))) ∨ rCatT K (.ref a) (.ref b) H Q
  | _, _ => False
def uSub : R2 := fun x y H Q => match x, y with
  | .int i, .int j => Q (.int (i - j)) H
  | _, _ => False
def strRep (a : Str) (n : Nat) : Str := ⟨(List.replicate n (tl a)).flatten.toArray⟩
def uMul : R2 := fun x y H Q => match x, y with
  | .int i, .int j => (CMul i j ∨ CMulW i j) ∧ Q (.int (i * j)) H
  | .str a, .int k => (k < 16777217 ∧ -16777217 < k ∧ a.length * k.toNat ≤ sizeLine) ∧ Q (.str (strRep a k.toNat)) H
  | .ref a, .int k => ∃ xs, H a = some (.lst xs) ∧ -(2 ^ 63) ≤ k ∧ k < 2 ^ 63 ∧ xs.length * k.toNat ≤ sizeLine ∧
      ∀ p, H p = none → Q (.ref p) (upd H p (.lst (List.replicate k.toNat xs).flatten))
  | _, _ => False
def uMod : R2 := fun x y H Q => match x, y with
  | .int i, .int j => 0 < j ∧ Q (.int (i % j)) H
  | _, _ => False
def uDiv : R2 := fun x y H Q => match x, y with
  | .int i, .int j => CDivW i j ∧ Q (.int (i / j)) H
  | _, _ => False
def CPowW (i j : Int) : Prop := 0 ≤ j ∧ (Builtin.Int.intBits i : Int) * j ≤ 2 ^ 27
def uPow : R2 := fun x y H Q => match x, y with
  | .int i, .int j => CPowW i j ∧ Q (.int (i ^ j.toNat)) H
  | _, _ => False
def isRef : V → Bool
  | .ref _ => true
  | _ => false
def uEq (K : PySem.W.Frag) : R2 := fun x y H Q => (scal x y = true ∧ Q (.bl (decide (x = y))) H) ∨ rEqD K x y H Q
def uNe (K : PySem.W.Frag) : R2 := fun x y H Q => (scal x y = true ∧ Q (.bl (!decide (x = y))) H) ∨ rNeD K x y H Q
def uLt : R2 := fun x y H Q => match x, y with
  | .int i, .int j => Q (.bl (decide (i < j))) H
  | .str a, .str b => Q (.bl (decide (tl a < tl b))) H
  | _, _ => False
def uGt : R2 := fun x y H Q => match x, y with
  | .int i, .int j => Q (.bl (decide (j < i))) H
  | .str a, .str b => Q (.bl (decide (tl b < tl a))) H
  | _, _ => False
def uLe : R2 := fun x y H Q => match x, y with
  | .int i, .int j => Q (.bl (decide (i ≤ j))) H
  | .str a, .str b => Q (.bl (!decide (tl b < tl a))) H
  | _, _ => False
def uGe : R2 := fun x y H Q => match x, y with
  | .int i, .int j => Q (.bl (decide (j ≤ i))) H
  | .str a, .str b => Q (.bl (!decide (tl a < tl b))) H
  | _, _ => False
def uIn (K : PySem.W.Frag) : R2 := fun x y H Q => match y with
  | .str z => ∃ c, x = .str ⟨#[c]⟩ ∧ Q (.bl (decide (c ∈ tl z))) H
  | .ref p => ∃ xs, (SqL K H p xs ∨ SqT K H p xs) ∧ flatV x = true ∧ xs.all flatV = true ∧ Q (.bl (inV x xs)) H
  | _ => False
def uNi (K : PySem.W.Frag) : R2 := fun x y H Q => match y with
  | .str z => ∃ c, x = .str ⟨#[c]⟩ ∧ Q (.bl (!decide (c ∈ tl z))) H
  | .ref p => ∃ xs, (SqL K H p xs ∨ SqT K H p xs) ∧ flatV x = true ∧ xs.all flatV = true ∧ Q (.bl (!inV x xs)) H
  | _ => False

section
variable {X : Cx}
theorem OpR.or {f : Value → Value → Sem Value} {r r' : R2} (h : OpR X f r) (h' : OpR X f r') :
    OpR X f (fun x y H Q => r x y H Q ∨ r' x y H Q) := by
  intro pins s σ H x y v u Q I rx ry q
  rcases q with q | q
  · exact h pins s σ H x y v u Q I rx ry q
  · exact h' pins s σ H x y v u Q I rx ry q

theorem OpR.imp {f : Value → Value → Sem Value} {r r' : R2} (h : OpR X f r) (g : ∀ x y H Q, r' x y H Q → r x y H Q) : OpR X f r' :=
  fun pins s σ H x y v u Q I rx ry q => h pins s σ H x y v u Q I rx ry (g x y H Q q)
/-! a list that is only read, and another one -/
theorem op_catQ : OpR X (binaryOp .Add) (fun x y H Q => ∃ a b xs zs, x = .ref a ∧ y = .ref b ∧ SqL X.K H a xs ∧ SqL X.K H b zs ∧ xs.length + zs.length ≤ sizeLine ∧
    ∀ p, H p = none → Q (.ref p) (upd H p (.lst (xs ++ zs)))) := by
  intro pins s σ H x y v u Q I rx ry h
  obtain ⟨l, b, xs, zs, rfl, rfl, hH, hH2, hz, q⟩ := h
  cases rx
  cases ry
  obtain ⟨its, r, ⟨⟨cls, dd, data, sl⟩, n, ho, hc, hd, hs⟩, z1⟩ := I.list hH
  obtain ⟨its2, r2, ⟨⟨cls2, dd2, data2, sl2⟩, n2, ho2, hc2, hd2, hs2⟩, z2⟩ := I.list hH2
  simp only at hc hd hs hc2 hd2 hs2
  subst hc hd hs hc2 hd2 hs2
  have e1 := r.length
  have e2 := r2.length
  have ea : its.toArray ++ its2.toArray = (its ++ its2).toArray := by simp
  refine concat_meets ⟨_, ho, rfl⟩ ⟨_, ho2, rfl⟩ noFill_list_add seq_list_add PySem.F.slot_list_add PySem.F.entry_list_add (PySem.F.args_list_add_2 _ _)
    (list_addW l b its.toArray its2.toArray n n2 none none sl sl2 (by rw [List.size_toArray, List.size_toArray]; omega)) ⟨ho, ho2, ?_⟩
  rw [ea]
  exact ⟨.ref _, _, I.lnew (t' := s.toks) (r.append r2) (by rw [List.length_append]; omega), rfl, q _ I.fresh⟩
theorem ou_add : OpR X (binaryOp .Add) (uAdd X.K) :=
  OpR.imp (OpR.or op_add (OpR.or op_add_str (OpR.or op_catQ op_catT))) fun x y H Q h => by
    cases x <;> cases y <;> first
      | exact False.elim h
      | exact .inl ⟨_, _, rfl, rfl, h⟩
      | exact .inr (.inl ⟨_, _, rfl, rfl, h.1, h.2⟩)
      | skip
    rcases h with ⟨xs, zs, h1, h2, h3, h4⟩ | h
    · exact .inr (.inr (.inl ⟨_, _, xs, zs, rfl, rfl, h1, h2, h3, h4⟩))
    · exact .inr (.inr (.inr h))
theorem ou_sub : OpR X (binaryOp .Sub) uSub := OpR.imp op_sub fun x y H Q h => by
  cases x <;> cases y <;> first
    | exact False.elim h
    | exact ⟨_, _, rfl, rfl, h⟩
theorem foldl_app (z : Array Nat) : ∀ (n : Nat) (acc : Array Nat), ((List.replicate n z).foldl (· ++ ·) acc).toList = acc.toList ++ (List.replicate n z.toList).flatten
  | 0, acc => by simp
  | n + 1, acc => by
    rw [List.replicate_succ, List.foldl_cons, foldl_app z n, List.replicate_succ, List.flatten_cons, Array.toList_append, List.append_assoc]
theorem strRep_len (a : Str) (n : Nat) : (strRep a n).length = a.length * n := by
  show (List.replicate n (tl a)).flatten.toArray.size = a.cps.size * n
  rw [List.size_toArray, List.length_flatten]
  simp [Nat.mul_comm]
theorem tl_rep (a : Str) (n : Nat) : tl (strRep a n) = (List.replicate n (tl a)).flatten := rfl
theorem ou_mulS {a : Str} {k : Int} {t u : Tok} {pins : List (Addr × Obj)} {s : Shared} {σ : L2.St} {H : Hp} {Q : VK} (I : Inv X pins σ H s)
    (hc : k < 16777217 ∧ -16777217 < k ∧ a.length * k.toNat ≤ sizeLine) (q : Q (.str (strRep a k.toNat)) H) :
    wpAny (model X.prog X.w) X.A (binaryOp .Mult (.str a t) (.int k u)) (EP X pins σ Q) X.xe s := by
  obtain ⟨h1, h2, h3⟩ := hc
  have hz := h3
  rw [sizeLine_eq] at h3
  have two : (2 : Int) ^ 63 = 9223372036854775808 := by decide
  refine PySem.P.mul_str ?_ (fun h0 h z => ?_) (fun h0 h => ?_) ?_
  · rw [two, decide_eq_false (by omega), decide_eq_false (by omega)]
    rfl
  · have hk : 0 < k := by omega
    have e1 : (a.length : Int) * k ≤ 16777216 := by
      have e : ((a.length * k.toNat : Nat) : Int) ≤ ((16777216 : Nat) : Int) := Int.ofNat_le.mpr h3
      rw [Int.natCast_mul, Int.toNat_of_nonneg (by omega)] at e
      exact e
    rw [two] at z
    have e2 := Int.mul_ediv_add_emod (9223372036854775808 - 1) k
    have e3 := Int.emod_lt_of_pos (9223372036854775808 - 1) hk
    have e4 : k * ((9223372036854775808 - 1) / k) ≤ k * (a.length : Int) := Int.mul_le_mul_of_nonneg_left (by omega) (by omega)
    rw [Int.mul_comm k (a.length : Int)] at e4
    generalize k * ((9223372036854775808 - 1) / k) = p at *
    generalize (a.length : Int) * k = r at *
    omega
  · unfold PySem.Builtin.Str.tooLong
    exact decide_eq_false (by omega)
  · by_cases h0 : k < 1
    · rw [if_pos h0]
      have e : strRep a k.toNat = Str.empty := by
        rw [show k.toNat = 0 by omega]
        rfl
      exact ⟨Nat.zero_le _, .str _, H, I.tok _, ⟨_, by rw [e]⟩, q⟩
    · rw [if_neg h0]
      by_cases h1' : (k == 1 || a.length == 0) = true
      · rw [if_pos h1']
        have e : strRep a k.toNat = a := by
          rw [Bool.or_eq_true, beq_iff_eq, beq_iff_eq] at h1'
          apply TL.ext_tl
          show tl (strRep a k.toNat) = tl a
          rw [tl_rep]
          rcases h1' with h1' | h1'
          · rw [h1']
            simp
          · have z : tl a = [] := by
              apply List.eq_nil_of_length_eq_zero
              simpa [tl, Str.length] using h1'
            rw [z]
            simp
        exact ⟨.str _, H, I, ⟨t, by rw [e]⟩, q⟩
      · rw [if_neg h1']
        have e : (⟨(List.replicate k.toNat a.cps).foldl (· ++ ·) #[]⟩ : Str) = strRep a k.toNat := by
          apply TL.ext_tl
          show ((List.replicate k.toNat a.cps).foldl (· ++ ·) #[]).toList = (List.replicate k.toNat (tl a)).flatten
          rw [foldl_app]
          simp [tl]
        refine ⟨?_, .str _, H, I.tok _, ⟨_, by rw [e]⟩, q⟩
        rw [e, strRep_len]
        exact hz
def rMulS : R2 := fun x y H Q => ∃ a k, x = .str a ∧ y = .int k ∧ (k < 16777217 ∧ -16777217 < k ∧ a.length * k.toNat ≤ sizeLine) ∧ Q (.str (strRep a k.toNat)) H
theorem op_mulS : OpR X (binaryOp .Mult) rMulS := by
  rintro pins s σ H x y v u Q I rx ry ⟨a, k, rfl, rfl, h, q⟩
  obtain ⟨t, rfl⟩ := rx
  obtain ⟨t', rfl⟩ := ry
  exact ou_mulS I h q
theorem ou_mul : OpR X (binaryOp .Mult) uMul :=
  OpR.imp (OpR.or op_mul (OpR.or op_mulW (OpR.or op_mulS op_rep))) fun x y H Q h => by
    cases x <;> cases y <;> first
      | exact False.elim h
      | exact .inr (.inr (.inl ⟨_, _, rfl, rfl, h.1, h.2⟩))
      | skip
    · rcases h.1 with c | c
      · exact .inl ⟨_, _, rfl, rfl, c, h.2⟩
      · exact .inr (.inl ⟨_, _, rfl, rfl, c, h.2⟩)
    · obtain ⟨xs, h1, h2, h3, h4, h5⟩ := h
      exact .inr (.inr (.inr ⟨_, _, xs, rfl, rfl, h1, h2, h3, h4, h5⟩))
theorem ou_mod : OpR X (binaryOp .Mod) uMod := OpR.imp op_mod fun x y H Q h => by
  cases x <;> cases y <;> first
    | exact False.elim h
    | exact ⟨_, _, rfl, rfl, h.1, h.2⟩
theorem ou_div : OpR X (binaryOp .FloorDiv) uDiv := OpR.imp op_fdivW fun x y H Q h => by
  cases x <;> cases y <;> first
    | exact False.elim h
    | exact ⟨_, _, rfl, rfl, h.1, h.2⟩
theorem op_powW : OpR X (binaryOp .Pow) (rI CPowW fun i j => .int (i ^ j.toNat)) := opI fun _ _ _ _ _ _ _ hc q => pow_int hc.1 hc.2 q
theorem ou_pow : OpR X (binaryOp .Pow) uPow := OpR.imp op_powW fun x y H Q h => by
  cases x <;> cases y <;> first
    | exact False.elim h
    | exact ⟨_, _, rfl, rfl, h.1, h.2⟩
theorem ou_eq (hu : X.A.units + 64 < cLine) : OpR X (compareOp .Eq) (uEq X.K) := OpR.or op_eq (op_eqD hu)
theorem ou_ne (hu : X.A.units + 64 < cLine) : OpR X (compareOp .NotEq) (uNe X.K) := OpR.or op_ne (op_neD hu)
theorem ou_lt : OpR X (compareOp .Lt) uLt := OpR.imp (OpR.or op_lt op_lt_str) fun x y H Q h => by
  cases x <;> cases y <;> first
    | exact False.elim h
    | exact .inl ⟨_, _, rfl, rfl, h⟩
    | exact .inr ⟨_, _, rfl, rfl, h⟩
theorem ou_gt : OpR X (compareOp .Gt) uGt := OpR.imp (OpR.or op_gt op_gt_str) fun x y H Q h => by
  cases x <;> cases y <;> first
    | exact False.elim h
    | exact .inl ⟨_, _, rfl, rfl, h⟩
    | exact .inr ⟨_, _, rfl, rfl, h⟩
theorem ou_le : OpR X (compareOp .LtE) uLe := OpR.imp (OpR.or op_le op_le_str) fun x y H Q h => by
  cases x <;> cases y <;> first
    | exact False.elim h
    | exact .inl ⟨_, _, rfl, rfl, h⟩
    | exact .inr ⟨_, _, rfl, rfl, h⟩
theorem ou_ge : OpR X (compareOp .GtE) uGe := OpR.imp (OpR.or op_ge op_ge_str) fun x y H Q h => by
  cases x <;> cases y <;> first
    | exact False.elim h
    | exact .inl ⟨_, _, rfl, rfl, h⟩
    | exact .inr ⟨_, _, rfl, rfl, h⟩
theorem ou_in : OpR X (compareOp .In) (uIn X.K) := OpR.imp (OpR.or op_in_sign op_in_seq) fun x y H Q h => by
  cases y <;> first
    | exact False.elim h
    | (obtain ⟨c, e, q⟩ := h
       exact .inl ⟨c, _, e, rfl, q⟩)
    | (obtain ⟨xs, h1, h2, h3, q⟩ := h
       exact .inr ⟨_, xs, rfl, h1, h2, h3, q⟩)
theorem ou_ni : OpR X (compareOp .NotIn) (uNi X.K) := OpR.imp (OpR.or op_notIn_sign op_notIn_seq) fun x y H Q h => by
  cases y <;> first
    | exact False.elim h
    | (obtain ⟨c, e, q⟩ := h
       exact .inl ⟨c, _, e, rfl, q⟩)
    | (obtain ⟨xs, h1, h2, h3, q⟩ := h
       exact .inr ⟨_, xs, rfl, h1, h2, h3, q⟩)
theorem ou_is : OpR X (compareOp .Is) (fun x y H Q => y = .non ∧ Q (.bl (decide (x = .non))) H) := op_isN
end
end Gd
/-! Readings step by step; what stays of a heap; data of any depth. -/
namespace Gd
open PySem PySem.Spec PyProof.Rows L2

/-! ### what stays -/
/-- all that is tracked stays, but at S -/
def Kp (S : List Addr) (H H' : Hp) : Prop := ∀ b o, H b = some o → b ∉ S → H' b = some o
section
variable {S T : List Addr} {H H1 H2 H' : Hp} {a b p : Addr} {o u : HO}
theorem Kp.refl : Kp S H H := fun _ _ h _ => h
theorem Kp.get (k : Kp S H H') (h : H b = some o) (n : b ∉ S) : H' b = some o := k b o h n
theorem Kp.get0 (k : Kp [] H H') (h : H b = some o) : H' b = some o := k b o h (by simp)
theorem Kp.get1 (k : Kp [a] H H') (h : H b = some o) (n : b ≠ a) : H' b = some o := k b o h (by simp [n])
theorem Kp.get2 {c : Addr} (k : Kp [a, c] H H') (h : H b = some o) (n : b ≠ a) (m : b ≠ c) : H' b = some o := k b o h (by simp [n, m])
theorem nn1 (h : H b = none) (h' : H a = some o) : a ≠ b := ne_of_none h' h
theorem nn2 (h : H a = none) (h' : H b = some o) : a ≠ b := (ne_of_none h' h).symm
theorem Kp.new (k : Kp S H H') (h : H' p = none) : Kp S H (upd H' p o) := fun b u e n => by
  have e2 := k b u e n
  rw [upd_ne (ne_of_none e2 h)]
  exact e2
theorem Kp.mutS (k : Kp S H H') (h : p ∈ S) : Kp S H (upd H' p o) := fun b u e n => by
  rw [upd_ne (fun z => n (by rw [z]; exact h))]
  exact k b u e n
theorem Kp.mutN (k : Kp S H H') (h : H p = none) : Kp S H (upd H' p o) := fun b u e n => by
  rw [upd_ne (ne_of_none e h)]
  exact k b u e n
theorem Kp.call (k : Kp S H H1) (l : Kp T H1 H2) (h : ∀ t ∈ T, t ∈ S ∨ H t = none) : Kp S H H2 := fun b u e n =>
  l b u (k b u e n) fun z => (h b z).elim n fun w => by rw [e] at w; cases w
theorem Kp.call0 (k : Kp S H H1) (l : Kp [] H1 H2) : Kp S H H2 := k.call l (by simp)
theorem Kp.call1 (k : Kp S H H1) (l : Kp [a] H1 H2) (h : a ∈ S) : Kp S H H2 := k.call l (by simp [h])
theorem Kp.callN (k : Kp S H H1) (l : Kp [a] H1 H2) (h : H a = none) : Kp S H H2 := k.call l (by simp [h])
theorem Kp.wide (k : Kp [] H H') : Kp S H H' := fun b u e _ => k b u e (by simp)
theorem Kp.mem (k : Kp S H H') (h : ∀ t ∈ S, t ∈ T) : Kp T H H' := fun b u e n => k b u e fun z => n (h b z)
/-- what is new is new from the start -/
theorem Kp.free0 (k : Kp [] H H') (h : H' p = none) : H p = none := by
  cases q : H p with
  | none => rfl
  | some u => rw [k.get0 q] at h; cases h
theorem Kp.free1 (k : Kp [a] H H') (ha : H' a = some u) (h : H' p = none) : H p = none := by
  cases q : H p with
  | none => rfl
  | some v =>
    have n : p ≠ a := fun z => by rw [z, ha] at h; cases h
    rw [k.get1 q n] at h; cases h
theorem Same.kp (s : Same H H') : Kp S H H' := fun b u e _ => s b u e
theorem Kp.same (k : Kp [] H H') : Same H H' := fun b u e => k b u e (by simp)
end

/-! ### the readings, one sign at a time -/
section
variable {X : Cx} {K : PySem.W.Frag} {σ : L2.St} {H : Hp} {Q : VK} {D : Ends} {v x y : V} {ta tb te tc : TE} {r : R2} {t u : TS} {i : Nat}
theorem rd_var (h : σ[i]? = some (some v)) (q : Q v H) : tVar i σ H Q := ⟨v, h, q⟩
theorem rd_c (q : Q v H) : tC v σ H Q := q
theorem rd_op (q : ta σ H fun x H1 => tb σ H1 fun y H2 => r x y H2 Q) : tOp r ta tb σ H Q := q
theorem rd_un {r : V → Hp → VK → Prop} (q : ta σ H fun x H1 => r x H1 Q) : tUn r ta σ H Q := q
theorem rd_cb {r : List V → Hp → VK → Prop} {t : TA} (q : t σ H fun vs H1 => r vs H1 Q) : tCB r t σ H Q := q
theorem rd_nil {Q : List V → Hp → Prop} (q : Q [] H) : tNil σ H Q := q
theorem rd_cons {t : TA} {Q : List V → Hp → Prop} (q : ta σ H fun x H1 => t σ H1 fun xs H2 => Q (x :: xs) H2) : tCons ta t σ H Q := q
theorem rd_lst {t : TA} (q : t σ H fun xs H1 => xs.length ≤ sizeLine ∧ ∀ p, H1 p = none → Q (.ref p) (upd H1 p (.lst xs))) : tLst t σ H Q := q
theorem rd_tup {t : TA} (q : t σ H fun xs H1 => xs.length ≤ sizeLine ∧ ∀ p, H1 p = none → Q (.ref p) (upd H1 p (.tup xs))) : tTup t σ H Q := q
theorem rd_call {sp : Sp} {dvs : List V} {E : XK} {t : TA} (q : t σ H fun vs H1 => sp (vs ++ dvs) H1 Q E) : tCall sp dvs E t σ H Q := q
theorem rd_callK {sp : Sp} {gV : List V → List V → List V} {E : XK} {t tk : TA} (q : t σ H fun vs H1 => tk σ H1 fun zs H2 => sp (gV vs zs) H2 Q E) : tCallK sp gV E t tk σ H Q := q
theorem rd_seq (q : t { D with nx := u D } σ H) : tSeq t u D σ H := q
theorem rd_next (q : D.nx σ H) : tNext D σ H := q
theorem rd_nx {u' : L2.St → Hp → Prop} {r1 : VK} {r2 r3 : L2.St → Hp → Prop} (q : u' σ H) : Ends.nx ⟨u', r1, r2, r3⟩ σ H := q
theorem rd_rt {u' : L2.St → Hp → Prop} {r1 : VK} {r2 r3 : L2.St → Hp → Prop} (q : r1 v H) : Ends.rt ⟨u', r1, r2, r3⟩ v H := q
theorem rd_bk {u' : L2.St → Hp → Prop} {r1 : VK} {r2 r3 : L2.St → Hp → Prop} (q : r2 σ H) : Ends.bk ⟨u', r1, r2, r3⟩ σ H := q
theorem rd_cn {u' : L2.St → Hp → Prop} {r1 : VK} {r2 r3 : L2.St → Hp → Prop} (q : r3 σ H) : Ends.ct ⟨u', r1, r2, r3⟩ σ H := q
theorem rd_brk (q : D.bk σ H) : tBreak D σ H := q
theorem rd_ct (q : D.ct σ H) : tCont D σ H := q
theorem rd_asg {g : TG} (q : te σ H fun x H1 => g x σ H1 D.nx) : tAsg te g D σ H := q
theorem rd_gname {Q : L2.St → Hp → Prop} (q : Q (σ.set i (some v)) H) : gName i v σ H Q := q
theorem rd_gsub {to ti : TE} {s : TSet} {Q : L2.St → Hp → Prop} (q : to σ H fun o H1 => ti σ H1 fun j H2 => s o j v H2 fun H3 => Q σ H3) : gSub to ti s v σ H Q := q
theorem rd_drop (q : te σ H fun _ H1 => D.nx σ H1) : tDrop te D σ H := q
theorem rd_ret (q : te σ H D.rt) : tRet te D σ H := q
theorem rd_retN (q : D.rt .non H) : tRetN D σ H := q
theorem rd_ifs {c : TT} (q : c σ H fun b H1 => if b = true then t D σ H1 else u D σ H1) : tIfS c t u D σ H := q
theorem rd_ife {c : TT} (q : c σ H fun b H1 => if b = true then ta σ H1 Q else tb σ H1 Q) : tIf c ta tb σ H Q := q
theorem rd_test {Q : Bool → Hp → Prop} (q : te σ H fun x H' => ∃ k, x = .bl k ∧ Q k H') : tTest te σ H Q := q
theorem rd_tand {s t : TT} {Q : Bool → Hp → Prop} (q : s σ H fun c H1 => if c = true then t σ H1 Q else Q false H1) : tAnd s t σ H Q := q
theorem rd_tor {s t : TT} {Q : Bool → Hp → Prop} (q : s σ H fun c H1 => if c = true then Q true H1 else t σ H1 Q) : tOr s t σ H Q := q
theorem rd_tnot {t : TT} {Q : Bool → Hp → Prop} (q : t σ H fun c H1 => Q (!c) H1) : tNot t σ H Q := q
theorem rd_par {j : Nat} {t : TA} (q : t σ H fun vs H1 => ∃ v w, vs = [v, w] ∧ D.nx ((σ.set i (some v)).set j (some w)) H1) : tPar i j t D σ H := q
/-- a test by truth -/
def uTru (K : PySem.W.Frag) (ta : TE) : TT := fun σ H Q => ta σ H fun x H' => ∃ k, TruV K x H' k ∧ Q k H'
theorem rd_tru {Q : Bool → Hp → Prop} (q : te σ H fun x H' => ∃ k, TruV K x H' k ∧ Q k H') : uTru K te σ H Q := q
theorem tr_bl {P : Bool → Prop} {b : Bool} (q : P b) : ∃ k, TruV K (.bl b) H k ∧ P k := ⟨b, rfl, q⟩
theorem tr_k {P : Bool → Prop} {b : Bool} (q : P b) : ∃ k, V.bl b = .bl k ∧ P k := ⟨b, rfl, q⟩
theorem rd_andT (q : ta σ H fun x H1 => ∃ k, TruV K x H1 k ∧ if k = true then tb σ H1 Q else Q x H1) : tAndT K ta tb σ H Q := q
theorem rd_orT (q : ta σ H fun x H1 => ∃ k, TruV K x H1 k ∧ if k = true then Q x H1 else tb σ H1 Q) : tOrT K ta tb σ H Q := q
theorem rd_notT (q : ta σ H fun x H1 => ∃ k, TruV K x H1 k ∧ Q (.bl (!k)) H1) : tNotT K ta σ H Q := q
theorem rd_tsl {r : V → Option Int → Option Int → Hp → VK → Prop} {tl th : TO} (q : te σ H fun x H1 => tl σ H1 fun l H2 => th σ H2 fun u H3 => r x l u H3 Q) : tSl r te tl th σ H Q := q
theorem rd_part {Q : Option Int → Hp → Prop} (q : te σ H fun x H1 => ∃ i, x = .int i ∧ Q (some i) H1) : tPart te σ H Q := q
theorem rd_nopart {Q : Option Int → Hp → Prop} (q : Q none H) : tNoPart σ H Q := q
theorem tr_int {P : Int → Prop} {i : Int} (q : P i) : ∃ j, V.int i = .int j ∧ P j := ⟨i, rfl, q⟩
theorem rd_bm {T : String} {r : V → List V → Hp → VK → Prop} {t : TA} (q : te σ H fun x H1 => tyV K T x H1 ∧ t σ H1 fun xs H2 => r x xs H2 Q) : tBM K T r te t σ H Q := q
theorem rd_bm0 {T : String} {r : V → List V → Hp → VK → Prop} (q : te σ H fun x H1 => tyV K T x H1 ∧ r x [] H1 Q) : tBM0 K T r te σ H Q := q
theorem rd_m1 {r : V → List V → Hp → VK → Prop} (q : ta σ H fun x H1 => (∃ a, x = .str a) ∧ tb σ H1 fun y H2 => r x [y] H2 Q) : tM1 r ta tb σ H Q := q
theorem rd_m0 {r : V → List V → Hp → VK → Prop} (q : ta σ H fun x H1 => (∃ a, x = .str a) ∧ r x [] H1 Q) : tM0 r ta σ H Q := q
/-! values -/
theorem u_addI {a b : Int} (q : Q (.int (a + b)) H) : uAdd K (.int a) (.int b) H Q := q
theorem u_addS {a b : Str} (h : a.length + b.length ≤ sizeLine) (q : Q (.str (a ++ b)) H) : uAdd K (.str a) (.str b) H Q := ⟨h, q⟩
theorem u_addL {a b : Addr} {xs zs : List V} (h1 : SqL K H a xs) (h2 : SqL K H b zs) (h3 : xs.length + zs.length ≤ sizeLine)
    (q : ∀ p, H p = none → Q (.ref p) (upd H p (.lst (xs ++ zs)))) : uAdd K (.ref a) (.ref b) H Q := .inl ⟨xs, zs, h1, h2, h3, q⟩
theorem u_subI {a b : Int} (q : Q (.int (a - b)) H) : uSub (.int a) (.int b) H Q := q
theorem u_mulI {a b : Int} (h : CMul a b ∨ CMulW a b) (q : Q (.int (a * b)) H) : uMul (.int a) (.int b) H Q := ⟨h, q⟩
theorem u_mulS {a : Str} {k : Int} (h1 : k < 16777217) (h2 : -16777217 < k) (h3 : a.length * k.toNat ≤ sizeLine) (q : Q (.str (strRep a k.toNat)) H) : uMul (.str a) (.int k) H Q := ⟨⟨h1, h2, h3⟩, q⟩
theorem u_mod {a b : Int} (h : 0 < b) (q : Q (.int (a % b)) H) : uMod (.int a) (.int b) H Q := ⟨h, q⟩
theorem u_div {a b : Int} (h : 0 < b) (h2 : b.natAbs.log2 < 9000) (q : Q (.int (a / b)) H) : uDiv (.int a) (.int b) H Q := ⟨⟨h, h2⟩, q⟩
theorem u_pow {a b : Int} (h : CPowW a b) (q : Q (.int (a ^ b.toNat)) H) : uPow (.int a) (.int b) H Q := ⟨h, q⟩
theorem u_eqI {a b : Int} (q : Q (.bl (decide (a = b))) H) : uEq K (.int a) (.int b) H Q := .inl ⟨rfl, by
  rw [show decide (V.int a = V.int b) = decide (a = b) by simp]
  exact q⟩
theorem u_neI {a b : Int} (q : Q (.bl (!decide (a = b))) H) : uNe K (.int a) (.int b) H Q := .inl ⟨rfl, by
  rw [show decide (V.int a = V.int b) = decide (a = b) by simp]
  exact q⟩
theorem u_eqS {a b : Str} (q : Q (.bl (decide (a = b))) H) : uEq K (.str a) (.str b) H Q := .inl ⟨rfl, by
  rw [show decide (V.str a = V.str b) = decide (a = b) by simp]
  exact q⟩
theorem u_neS {a b : Str} (q : Q (.bl (!decide (a = b))) H) : uNe K (.str a) (.str b) H Q := .inl ⟨rfl, by
  rw [show decide (V.str a = V.str b) = decide (a = b) by simp]
  exact q⟩
theorem u_eqB {a b : Bool} (q : Q (.bl (a == b)) H) : uEq K (.bl a) (.bl b) H Q := .inl ⟨rfl, by
  rw [show decide (V.bl a = V.bl b) = (a == b) by cases a <;> cases b <;> rfl]
  exact q⟩
theorem u_neB {a b : Bool} (q : Q (.bl (!(a == b))) H) : uNe K (.bl a) (.bl b) H Q := .inl ⟨rfl, by
  rw [show decide (V.bl a = V.bl b) = (a == b) by cases a <;> cases b <;> rfl]
  exact q⟩
theorem u_eqD {d e : PyData} (h1 : Dp K H x d) (h2 : Dp K H y e) (h3 : SeqAt.shaped d = true) (h4 : SeqAt.shaped e = true) (q : Q (.bl (PyData.eqv d e)) H) : uEq K x y H Q := .inr ⟨d, e, h1, h2, h3, h4, q⟩
theorem u_neD {d e : PyData} (h1 : Dp K H x d) (h2 : Dp K H y e) (h3 : SeqAt.shaped d = true) (h4 : SeqAt.shaped e = true) (q : Q (.bl (!PyData.eqv d e)) H) : uNe K x y H Q := .inr ⟨d, e, h1, h2, h3, h4, q⟩
theorem u_ltI {a b : Int} (q : Q (.bl (decide (a < b))) H) : uLt (.int a) (.int b) H Q := q
theorem u_gtI {a b : Int} (q : Q (.bl (decide (b < a))) H) : uGt (.int a) (.int b) H Q := q
theorem u_leI {a b : Int} (q : Q (.bl (decide (a ≤ b))) H) : uLe (.int a) (.int b) H Q := q
theorem u_geI {a b : Int} (q : Q (.bl (decide (b ≤ a))) H) : uGe (.int a) (.int b) H Q := q
theorem u_ltS {a b : Str} (q : Q (.bl (decide (tl a < tl b))) H) : uLt (.str a) (.str b) H Q := q
theorem u_gtS {a b : Str} (q : Q (.bl (decide (tl b < tl a))) H) : uGt (.str a) (.str b) H Q := q
theorem u_inS {c : Nat} {z : Str} (q : Q (.bl (decide (c ∈ tl z))) H) : uIn K (.str ⟨#[c]⟩) (.str z) H Q := ⟨c, rfl, q⟩
end

/-! ### len, isinstance, by the values' kinds -/
def uLen (K : PySem.W.Frag) : List V → Hp → VK → Prop := fun xs H Q => ∃ x n, xs = [x] ∧ LenV K x H n ∧ Q (.int n) H
theorem cu_len {X : Cx} : CallR X (.builtin "len") (uLen X.K) := call_len
section
variable {K : PySem.W.Frag} {H : Hp} {Q : VK} {a : Addr} {xs : List V}
theorem u_lenS {s : Str} (h : s.length ≤ sizeLine) (q : Q (.int (s.length : Int)) H) : uLen K [.str s] H Q := ⟨_, s.length, rfl, ⟨h, rfl⟩, q⟩
theorem u_lenL (h : SqL K H a xs) (q : Q (.int (xs.length : Int)) H) : uLen K [.ref a] H Q := ⟨_, xs.length, rfl, .inl ⟨xs, h, rfl⟩, q⟩
theorem u_lenT (h : SqT K H a xs) (q : Q (.int (xs.length : Int)) H) : uLen K [.ref a] H Q := ⟨_, xs.length, rfl, .inr ⟨xs, h, rfl⟩, q⟩
end

/-- isinstance by the type's name -/
def kinds : List String := ["NoneType", "bool", "int", "str", "list", "tuple", "dict"]
def isi (T C : String) : Bool := T == C || (T == "bool" && C == "int")
theorem isi_ok : ∀ T ∈ kinds, ∀ C ∈ ["bool", "int", "str", "list", "tuple", "dict"], kitB T C = some (isi T C) := by decide +kernel
inductive TyN (K : PySem.W.Frag) (H : Hp) : V → String → Prop
  | non : TyN K H .non "NoneType"
  | bl (b : Bool) : TyN K H (.bl b) "bool"
  | int (i : Int) : TyN K H (.int i) "int"
  | str (s : Str) : TyN K H (.str s) "str"
  | lst {a : Addr} {xs : List V} (h : SqL K H a xs) : TyN K H (.ref a) "list"
  | tup {a : Addr} {xs : List V} (h : H a = some (.tup xs)) : TyN K H (.ref a) "tuple"
  | dct {a : Addr} {kvs : List (Key × V)} (h : H a = some (.dK kvs)) : TyN K H (.ref a) "dict"
theorem TyN.mem {K : PySem.W.Frag} {H : Hp} {x : V} {T : String} (h : TyN K H x T) : T ∈ kinds := by
  cases h <;> decide
theorem TyN.x {K : PySem.W.Frag} {H : Hp} {x : V} {T : String} (h : TyN K H x T) : TyX K H x (.type T) := by
  cases h with
  | non => exact .base .non
  | bl b => exact .base (.bl b)
  | int i => exact .base (.int i)
  | str s => exact .base (.str s)
  | lst h =>
    rcases h with (h | ⟨o, h⟩) | ⟨o, its, n, h1, h2, _⟩
    · exact .base (.lst h)
    · exact .base (.frz h)
    · exact .kList h1 h2
  | tup h => exact .base (.tup h)
  | dct h => exact .base (.dK h)
def uIsi (K : PySem.W.Frag) : List V → Hp → VK → Prop := fun xs H Q => ∃ x C T, xs = [x, .ty C] ∧ C ∈ ["bool", "int", "str", "list", "tuple", "dict"] ∧ TyN K H x T ∧ Q (.bl (isi T C)) H
theorem cu_isi {X : Cx} : CallR X (.builtin "isinstance") (uIsi X.K) := by
  intro pins s σ H xs us Q I r h
  obtain ⟨x, C, T, rfl, hC, hT, q⟩ := h
  exact call_isi pins s σ H _ us Q I r ⟨x, .ty C, _, .type C, isi T C, rfl, .ty C, hT.x, kit_ty (isi_ok T hT.mem C hC), q⟩
theorem u_isiT {K : PySem.W.Frag} {H : Hp} {Q : VK} {x : V} {C : String} (h : TyN K H x C) (q : Q (.bl true) H) (hC : C ∈ ["bool", "int", "str", "list", "tuple", "dict"] := by decide) : uIsi K [x, .ty C] H Q :=
  ⟨x, C, C, rfl, hC, h, by rw [show isi C C = true by simp [isi]]; exact q⟩
theorem u_isiF {K : PySem.W.Frag} {H : Hp} {Q : VK} {x : V} {C T : String} (h : TyN K H x T) (e : isi T C = false) (q : Q (.bl false) H) (hC : C ∈ ["bool", "int", "str", "list", "tuple", "dict"] := by decide) : uIsi K [x, .ty C] H Q :=
  ⟨x, C, T, rfl, hC, h, by rw [e]; exact q⟩
theorem u_isi {K : PySem.W.Frag} {H : Hp} {Q : VK} {x : V} {C T : String} (h : TyN K H x T) (q : Q (.bl (isi T C)) H) (hC : C ∈ ["bool", "int", "str", "list", "tuple", "dict"] := by decide) : uIsi K [x, .ty C] H Q := ⟨x, C, T, rfl, hC, h, q⟩
end Gd
/-! Data of any depth, clear of the addresses that change; how it is shown. -/
namespace Gd
open PySem PySem.Spec PyProof.Rows L2

mutual
inductive Dq (N : Addr → Prop) (H : Hp) : V → PyData → Prop
  | non : Dq N H .non .none
  | bl (b : Bool) : Dq N H (.bl b) (.bool b)
  | int (i : Int) : Dq N H (.int i) (.int i)
  | str (x : Str) : Dq N H (.str x) (.str x)
  | lst {a : Addr} {xs : List V} {ds : List PyData} (n : N a) (h : H a = some (.lst xs)) (r : DqL N H xs ds) : Dq N H (.ref a) (.list ds)
  | tup {a : Addr} {xs : List V} {ds : List PyData} (n : N a) (h : H a = some (.tup xs)) (r : DqL N H xs ds) : Dq N H (.ref a) (.tuple ds)
inductive DqL (N : Addr → Prop) (H : Hp) : List V → List PyData → Prop
  | nil : DqL N H [] []
  | cons {v : V} {vs : List V} {d : PyData} {ds : List PyData} (h : Dq N H v d) (r : DqL N H vs ds) : DqL N H (v :: vs) (d :: ds)
end
section
variable {N M : Addr → Prop} {H H' : Hp} {S : List Addr}
mutual
theorem Dq.mono (k : ∀ b o, N b → H b = some o → H' b = some o) (m : ∀ b, N b → M b) : ∀ (d : PyData) (v : V), Dq N H v d → Dq M H' v d
  | .none, _, h => by cases h; exact .non
  | .bool b, _, h => by cases h; exact .bl b
  | .int i, _, h => by cases h; exact .int i
  | .str x, _, h => by cases h; exact .str x
  | .list ds, _, h => by
    cases h with
    | lst n h r => exact .lst (m _ n) (k _ _ n h) (DqL.mono k m ds _ r)
  | .tuple ds, _, h => by
    cases h with
    | tup n h r => exact .tup (m _ n) (k _ _ n h) (DqL.mono k m ds _ r)
  | .dict _, _, h => by cases h
theorem DqL.mono (k : ∀ b o, N b → H b = some o → H' b = some o) (m : ∀ b, N b → M b) : ∀ (ds : List PyData) (vs : List V), DqL N H vs ds → DqL M H' vs ds
  | [], _, h => by cases h; exact .nil
  | d :: ds, _, h => by
    cases h with
    | cons h r => exact .cons (Dq.mono k m d _ h) (DqL.mono k m ds _ r)
end
theorem Dq.kp {d : PyData} {v : V} (h : Dq N H v d) (k : Kp S H H') (n : ∀ b, N b → b ∉ S) : Dq N H' v d := Dq.mono (fun b o a e => k b o e (n b a)) (fun _ a => a) d v h
theorem DqL.kp {ds : List PyData} {vs : List V} (h : DqL N H vs ds) (k : Kp S H H') (n : ∀ b, N b → b ∉ S) : DqL N H' vs ds := DqL.mono (fun b o a e => k b o e (n b a)) (fun _ a => a) ds vs h
theorem Dq.kp0 {d : PyData} {v : V} (h : Dq N H v d) (k : Kp [] H H') : Dq N H' v d := h.kp k (by simp)
theorem Dq.new {d : PyData} {v : V} {p : Addr} {o : HO} (h : Dq N H v d) (np : H p = none) : Dq N (upd H p o) v d :=
  Dq.mono (fun b u _ e => by rw [upd_ne (ne_of_none e np)]; exact e) (fun _ a => a) d v h
theorem DqL.new {d : List PyData} {v : List V} {p : Addr} {o : HO} (h : DqL N H v d) (np : H p = none) : DqL N (upd H p o) v d :=
  DqL.mono (fun b u _ e => by rw [upd_ne (ne_of_none e np)]; exact e) (fun _ a => a) d v h
theorem Dq.mut {d : PyData} {v : V} {p : Addr} {o : HO} (h : Dq N H v d) (np : ¬ N p) : Dq N (upd H p o) v d :=
  Dq.mono (fun b u a e => by rw [upd_ne (fun z => np (by rw [← z]; exact a))]; exact e) (fun _ a => a) d v h
theorem DqL.mut {d : List PyData} {v : List V} {p : Addr} {o : HO} (h : DqL N H v d) (np : ¬ N p) : DqL N (upd H p o) v d :=
  DqL.mono (fun b u a e => by rw [upd_ne (fun z => np (by rw [← z]; exact a))]; exact e) (fun _ a => a) d v h
theorem DqL.app : ∀ {vs us : List V} {ds es : List PyData}, DqL N H vs ds → DqL N H us es → DqL N H (vs ++ us) (ds ++ es)
  | [], _, _, _, h, g => by cases h; exact g
  | v :: vs, _, _, _, h, g => by
    cases h with
    | cons h r => exact .cons h (r.app g)
theorem DqL.get : ∀ {vs : List V} {ds : List PyData} {i : Nat} {v : V}, DqL N H vs ds → vs[i]? = some v → ∃ d, ds[i]? = some d ∧ Dq N H v d
  | [], _, i, _, _, e => by simp at e
  | u :: vs, _, 0, v, h, e => by
    cases h with
    | cons h r =>
      simp at e
      subst e
      exact ⟨_, rfl, h⟩
  | u :: vs, _, i + 1, v, h, e => by
    cases h with
    | cons h r =>
      obtain ⟨d, e2, h2⟩ := r.get (i := i) (by simpa using e)
      exact ⟨d, by simpa using e2, h2⟩
theorem dqL_strs : ∀ ws : List Str, DqL N H (ws.map V.str) (ws.map PyData.str)
  | [] => .nil
  | w :: ws => .cons (.str w) (dqL_strs ws)
theorem dqL_ints : ∀ ws : List Int, DqL N H (ws.map V.int) (ws.map PyData.int)
  | [] => .nil
  | w :: ws => .cons (.int w) (dqL_ints ws)
theorem dq_strs {a : Addr} {ws : List Str} (n : N a) (h : H a = some (.lst (ws.map V.str))) : Dq N H (.ref a) (.list (ws.map PyData.str)) := .lst n h (dqL_strs ws)
theorem dq_ints {a : Addr} {ws : List Int} (n : N a) (h : H a = some (.lst (ws.map V.int))) : Dq N H (.ref a) (.list (ws.map PyData.int)) := .lst n h (dqL_ints ws)
mutual
theorem Dq.dp {K : PySem.W.Frag} : ∀ (d : PyData) (v : V), Dq N H v d → Dp K H v d
  | .none, _, h => by cases h; exact .non
  | .bool b, _, h => by cases h; exact .bl b
  | .int i, _, h => by cases h; exact .int i
  | .str x, _, h => by cases h; exact .str x
  | .list ds, _, h => by
    cases h with
    | lst n h r => exact .lst (SqL.of h) (DqL.dp ds _ r)
  | .tuple ds, _, h => by
    cases h with
    | tup n h r => exact .tup (SqT.of h) (DqL.dp ds _ r)
  | .dict _, _, h => by cases h
theorem DqL.dp {K : PySem.W.Frag} : ∀ (ds : List PyData) (vs : List V), DqL N H vs ds → DpAll K H vs ds
  | [], _, h => by cases h; exact .nil
  | d :: ds, _, h => by
    cases h with
    | cons h r => exact .cons (Dq.dp d _ h) (DqL.dp ds _ r)
end
end
section
variable {X : Cx} {N : Addr → Prop} {pins : List (Addr × Obj)} {σ : L2.St} {H : Hp} {s : Shared}
theorem Dq.reads (I : Inv X pins σ H s) {d : PyData} {v : V} {u : Value} (h : Dq N H v d) (r : RelV v u) : ∃ as, Reads s.heap u d as := Dp.reads I d v u (Dq.dp d v h) r
end

/-! ### how long the shown text is -/
mutual
def fine : PyData → Bool
  | .none | .bool _ => true
  | .int i => decide (i.natAbs.log2 < 1900)
  | .str x => (tl x).all fun c => decide (c < 1114112)
  | .list xs | .tuple xs => fineAll xs
  | .dict kvs => kvs.isEmpty
def fineAll : List PyData → Bool
  | [] => true
  | x :: xs => fine x && fineAll xs
end
mutual
def sz : PyData → Nat
  | .none | .bool _ => 5
  | .int _ => 2000
  | .str x => 10 * x.length + 2
  | .list xs | .tuple xs => szAll xs + 5
  | .dict _ => 2
def szAll : List PyData → Nat
  | [] => 0
  | x :: xs => sz x + 2 + szAll xs
end
theorem int_len (i : Int) (h : i.natAbs.log2 < 1900) : (Str.ofString (toString i)).length ≤ 2000 := by
  have hn : i.natAbs < 2 ^ 1900 := by
    by_cases z : i.natAbs = 0
    · rw [z]
      exact Nat.pow_pos (by decide)
    · exact (Nat.log2_lt z).mp h
  have e : (Str.ofString (toString i)).length = (toString i).length := by
    rw [TL.len_tl, TL.tl_ofString, List.length_map, String.length_toList]
  rw [e]
  cases i with
  | ofNat n =>
    have h2 : n < 2 ^ 1900 := by simpa using hn
    have h3 := nat_repr_length_le (n := n) (k := 1900) (by decide) h2
    show (Nat.repr n).length ≤ 2000
    omega
  | negSucc n =>
    have h2 : n + 1 < 2 ^ 1900 := by simpa using hn
    have h3 := nat_repr_length_le (n := n + 1) (k := 1900) (by decide) h2
    show ("-" ++ Nat.repr (n + 1)).length ≤ 2000
    rw [String.length_append]
    have : ("-" : String).length = 1 := rfl
    omega
mutual
theorem shown_len : ∀ d : PyData, fine d = true → d.shown.length ≤ sz d
  | .none, _ => by
    show (4 : Nat) ≤ 5
    decide
  | .bool b, _ => by cases b <;> decide
  | .int i, h => int_len i (of_decide_eq_true (by simpa only [fine] using h))
  | .str x, h => by
    simp only [PyData.shown, sz]
    refine StrLaws.reprText_len x fun c hc => ?_
    simp only [fine, List.all_eq_true, decide_eq_true_eq] at h
    exact Nat.lt_trans (h c hc) (by decide)
  | .list xs, h => by
    simp only [PyData.shown, sz]
    have q := shownAll_len xs (by simpa only [fine] using h)
    have e := listText_len_le (PyData.shownAll xs)
    omega
  | .tuple xs, h => by
    simp only [PyData.shown, sz]
    have q := shownAll_len xs (by simpa only [fine] using h)
    have e := tupleText_len_le (PyData.shownAll xs)
    omega
  | .dict kvs, h => by
    cases kvs with
    | nil => decide +kernel
    | cons _ _ => simp [fine] at h
theorem shownAll_len : ∀ ds : List PyData, fineAll ds = true → ((PyData.shownAll ds).map (·.length)).sum + 2 * (PyData.shownAll ds).length ≤ szAll ds
  | [], _ => Nat.le_refl _
  | d :: ds, h => by
    simp only [fineAll, Bool.and_eq_true] at h
    have h1 := shown_len d h.1
    have h2 := shownAll_len ds h.2
    simp only [PyData.shownAll, szAll, List.map_cons, List.sum_cons, List.length_cons]
    omega
end
mutual
theorem fine_showable : ∀ d : PyData, fine d = true → d.showable = true
  | .none, _ => by simp [PyData.showable]
  | .bool _, _ => by simp [PyData.showable]
  | .str _, _ => by simp [PyData.showable]
  | .int i, h => by
    simp only [fine, decide_eq_true_eq] at h
    simp only [PyData.showable, decide_eq_true_eq]
    omega
  | .list xs, h => by
    simp only [PyData.showable]
    exact fineAll_showable xs (by simpa only [fine] using h)
  | .tuple xs, h => by
    simp only [PyData.showable]
    exact fineAll_showable xs (by simpa only [fine] using h)
  | .dict kvs, h => by
    cases kvs with
    | nil => simp [PyData.showable, PyData.showableKv]
    | cons _ _ => simp [fine] at h
theorem fineAll_showable : ∀ ds : List PyData, fineAll ds = true → PyData.showableAll ds = true
  | [], _ => by simp [PyData.showableAll]
  | d :: ds, h => by
    simp only [fineAll, Bool.and_eq_true] at h
    simp only [PyData.showableAll, Bool.and_eq_true]
    exact ⟨fine_showable d h.1, fineAll_showable ds h.2⟩
end
mutual
theorem Dq.noDict {N : Addr → Prop} {H : Hp} : ∀ (d : PyData) (v : V), Dq N H v d → d.hasDict = false
  | .none, _, _ => by simp [PyData.hasDict]
  | .bool _, _, _ => by simp [PyData.hasDict]
  | .str _, _, _ => by simp [PyData.hasDict]
  | .int _, _, _ => by simp [PyData.hasDict]
  | .list xs, _, h => by
    cases h with
    | lst _ _ r =>
      simp only [PyData.hasDict]
      exact DqL.noDict xs _ r
  | .tuple xs, _, h => by
    cases h with
    | tup _ _ r =>
      simp only [PyData.hasDict]
      exact DqL.noDict xs _ r
  | .dict _, _, h => by cases h
theorem DqL.noDict {N : Addr → Prop} {H : Hp} : ∀ (ds : List PyData) (vs : List V), DqL N H vs ds → PyData.hasDictAll ds = false
  | [], _, _ => by simp [PyData.hasDictAll]
  | d :: ds, _, h => by
    cases h with
    | cons h r =>
      simp only [PyData.hasDictAll, Bool.or_eq_false_iff]
      exact ⟨Dq.noDict d _ h, DqL.noDict ds _ r⟩
end
/-- data, or the empty dict alone -/
inductive DqT (N : Addr → Prop) (H : Hp) : V → PyData → Prop
  | of {v : V} {d : PyData} (h : Dq N H v d) : DqT N H v d
  | d0 {a : Addr} (n : N a) (h : H a = some (.dK [])) : DqT N H (.ref a) (.dict [])
/-- small enough to be shown -/
structure Sm (d : PyData) : Prop where
  fine : fine d = true
  sz : sz d ≤ 10000000
  dep : d.depth ≤ 60
def uRepr : List V → Hp → VK → Prop := fun xs H Q => ∃ N x d, xs = [x] ∧ DqT N H x d ∧ Sm d ∧ Q (.str d.shown) H
theorem cu_repr {X : Cx} (hg : X.A.guards = some []) (hu : X.A.units + 100 < cLine) : CallR X (.builtin "repr") uRepr := by
  intro pins s σ H xs us Q I r h
  obtain ⟨N, x, d, rfl, hd, hs, q⟩ := h
  have hL : d.shown.length ≤ sizeLine := by
    have h1 := shown_len d hs.fine
    have h2 := hs.sz
    rw [sizeLine_eq]
    omega
  obtain ⟨u, rfl, rx⟩ := vals1 r
  have dep := hs.dep
  cases hd with
  | d0 n h =>
    cases (show u = Value.ref _ from rx)
    obtain ⟨_, hm, vs, kv, o, es, ep, h1, h2, h3, h4, h5, h6⟩ := (show ObjOk X.prog X.w H s.heap _ (.dK []) from I.hok _ _ h)
    cases kv
    have e0 : es.toList = [] := by
      revert h5
      generalize es.toList = l
      intro h5
      cases h5
      rfl
    have rd : Reads s.heap (.ref _) (.dict []) _ := Reads.dict h1 h2.1 h3 (by rw [e0]; exact ReadsAll.nil) (by rw [e0]; exact ReadsAll.nil)
    refine repr_of_reads' rd (by simp [PyData.showable, PyData.showableKv]) (fun _ => ?_) hg (by simp [PyData.depth, PyData.depthKv]; omega) (fun _ _ e => e) (fun h' u tk hk => ?_) hL
    · intro z
      simp at z
      rw [← z] at hm
      simp at hm
    · exact ⟨.str _, H, I.kept (t' := tk) hk, ⟨u, rfl⟩, q⟩
  | of hq =>
    cases d with
    | none =>
      cases hq
      cases (show u = Value.none from rx)
      exact PySem.P.repr_of_none ⟨.str _, H, I.tok _, ⟨_, rfl⟩, q⟩
    | bool b =>
      cases hq
      cases (show u = Value.bool b from rx)
      cases b
      · exact PySem.P.repr_of_bool ⟨.str _, H, I.tok _, ⟨_, rfl⟩, q⟩
      · exact PySem.P.repr_of_bool ⟨.str _, H, I.tok _, ⟨_, rfl⟩, q⟩
    | int i =>
      cases hq
      obtain ⟨t, rfl⟩ := rx
      have hf := hs.fine
      simp only [fine, decide_eq_true_eq] at hf
      exact PySem.P.repr_of_int (by omega) ⟨.str _, H, I.tok _, ⟨_, rfl⟩, q⟩
    | str z =>
      cases hq
      obtain ⟨t, rfl⟩ := rx
      exact PySem.P.repr_of_str ⟨.str _, H, I.tok _, ⟨_, rfl⟩, q⟩ hL
    | list ds =>
      obtain ⟨as, rd⟩ := hq.reads I rx
      cases hq
      cases (show u = Value.ref _ from rx)
      exact repr_of_reads' rd (fine_showable _ hs.fine) (PyData.noDict_hsm (Dq.noDict _ _ (.lst ‹_› ‹_› ‹_›))) hg (by omega) (fun _ _ e => e) (fun h' u tk hk => ⟨.str _, H, I.kept (t' := tk) hk, ⟨u, rfl⟩, q⟩) hL
    | tuple ds =>
      obtain ⟨as, rd⟩ := hq.reads I rx
      cases hq
      cases (show u = Value.ref _ from rx)
      exact repr_of_reads' rd (fine_showable _ hs.fine) (PyData.noDict_hsm (Dq.noDict _ _ (.tup ‹_› ‹_› ‹_›))) hg (by omega) (fun _ _ e => e) (fun h' u tk hk => ⟨.str _, H, I.kept (t' := tk) hk, ⟨u, rfl⟩, q⟩) hL
    | dict _ => cases hq
theorem u_repr {N : Addr → Prop} {H : Hp} {Q : VK} {x : V} {d : PyData} (h : DqT N H x d) (s : Sm d) (q : Q (.str d.shown) H) : uRepr [x] H Q := ⟨N, x, d, rfl, h, s, q⟩
end Gd
/-! Walks over anything; loops and comprehensions told by an invariant over the turn. -/
namespace Gd
open PySem PySem.Spec PyProof.Rows L2

/-- what a for walks: a list, a tuple, a text -/
def iU (K : PySem.W.Frag) (te : TE) : TI := fun σ H R => te σ H fun v H1 =>
  (∃ a, v = .ref a ∧ (∃ xs, SqL K H1 a xs) ∧ R (Itl K a) H1) ∨ (∃ a, v = .ref a ∧ (∃ xs, SqT K H1 a xs) ∧ R (Itt K a) H1) ∨ ∃ x, v = .str x ∧ R (Its x) H1
theorem pi_u {X : Cx} {tg e : Expr} {te : TE} (he : PE X e te) : PI X tg e (iU X.K te) := by
  refine ⟨fun pins s σ H R I h => ?_⟩
  refine thn (he.run pins s σ H _ I h) fun v s1 ⟨y, H1, I1, r1, q1⟩ => ?_
  have one : ∀ b ∈ [s1.heap.objs.size], FpOk X pins H1 b := fun b hb => by
    rw [show b = s1.heap.objs.size by simpa using hb]
    exact I1.fpOk (Nat.le_refl _) (I1.hok.fresh (Nat.le_refl _))
  rcases q1 with ⟨a, rfl, ⟨xs, hq⟩, q⟩ | ⟨a, rfl, ⟨xs, hq⟩, q⟩ | ⟨x, rfl, q⟩
  · cases r1
    obtain ⟨its, rv, p, hz⟩ := I1.list hq
    exact wpAny_pyIter_list p.isList ⟨s1.heap.objs.size, [s1.heap.objs.size], _, _, H1, rfl,
      I1.kept (t' := s1.toks) fun b o e => Heap.get?_push_of_some _ e, turn_list a _, ⟨_, Heap.get?_push_size _ rfl, rfl, rfl⟩, one, q⟩
  · cases r1
    obtain ⟨its, rv, p, hz⟩ := I1.tuple hq
    exact wpAny_pyIter_tuple (show s1.heap.IsTuple a its.toArray from p) ⟨s1.heap.objs.size, [s1.heap.objs.size], _, _, H1, rfl,
      I1.kept (t' := s1.toks) fun b o e => Heap.get?_push_of_some _ e, turn_tuple a _, ⟨_, Heap.get?_push_size _ rfl, rfl, rfl⟩, one, q⟩
  · obtain ⟨t, rfl⟩ := r1
    cases ha : x.cps.all (· < 128)
    · exact wpAny_pyIter_wide ha (pi_one (tk := s1.toks) I1 _ (turn_str _ x t "str_iterator" (.inr rfl)) ⟨_, Heap.get?_push_size _ rfl, rfl, rfl⟩ q)
    · exact wpAny_pyIter_ascii ha (pi_one (tk := s1.toks) I1 _ (turn_str _ x t "str_ascii_iterator" (.inl rfl)) ⟨_, Heap.get?_push_size _ rfl, rfl, rfl⟩ q)


section
variable {K : PySem.W.Frag} {σ : L2.St} {H : Hp} {D : Ends} {g : TG} {tb : TS} {te : TE} {ta : TA} {Q : VK} {tt : TT} {ws : List Nat}
abbrev inD (D : Ends) (N : L2.St → Hp → Prop) : Ends := { D with nx := N, ct := N, bk := D.nx }
/-- the rest of a for, once its walk J has come -/
def Rf (g : TG) (tb : TS) (D : Ends) (σ : L2.St) (J : It) (H1 : Hp) : Prop := ∃ W : Nat → Nat → L2.St → Hp → Prop, (∃ m, W 0 m σ H1) ∧ ∀ i m σ H, W i m σ H →
  (J.stop i H ∧ D.nx σ H) ∨ (J.go i H ∧ ∃ N : L2.St → Hp → Prop, (∀ σ' H', N σ' H' → ∃ m', m' < m ∧ W (i + 1) m' σ' H') ∧
    ∀ x H', J.yld i H x H' → g x σ H' fun σ2 H2 => tb (inD D N) σ2 H2)
/-- the rest of a comprehension -/
def Rl (g : TG) (tt : TT) (te : TE) (ws : List Nat) (σ : L2.St) (Q : VK) (J : It) (H1 : Hp) : Prop := ∀ D, H1 D = none → ∃ W : Nat → Nat → Hp → Prop,
  (∃ m, W 0 m (upd H1 D (.lst []))) ∧ ∀ i m H, W i m H → (J.stop i H ∧ Q (.ref D) H) ∨ (J.go i H ∧ ∃ Nx : Hp → Prop, (∀ H', Nx H' → ∃ m', m' < m ∧ W (i + 1) m' H') ∧
    ∀ x H', J.yld i H x H' → g x (wipe σ ws) H' fun σ2 H2 => wipe σ2 ws = wipe σ ws ∧ tt σ2 H2 fun b H3 =>
      if b = true then te σ2 H3 fun y H4 => ∃ acc, H4 D = some (.lst acc) ∧ acc.length < sizeLine ∧ Nx (upd H4 D (.lst (acc ++ [y]))) else Nx H3)
def wU (K : PySem.W.Frag) (R : It → Hp → Prop) (v : V) (H1 : Hp) : Prop :=
  (∃ a, v = .ref a ∧ (∃ xs, SqL K H1 a xs) ∧ R (Itl K a) H1) ∨ (∃ a, v = .ref a ∧ (∃ xs, SqT K H1 a xs) ∧ R (Itt K a) H1) ∨ ∃ x, v = .str x ∧ R (Its x) H1
def wR1 (R : It → Hp → Prop) (vs : List V) (H1 : Hp) : Prop := ∃ j : Int, vs = [.int j] ∧ -(2 ^ 62) ≤ j ∧ j < 2 ^ 62 ∧ R (Itr 0 j.toNat) H1
def wR2 (R : It → Hp → Prop) (vs : List V) (H1 : Hp) : Prop := ∃ i j : Int, vs = [.int i, .int j] ∧ (-(2 ^ 62) ≤ i ∧ i < 2 ^ 62 ∧ -(2 ^ 62) ≤ j ∧ j < 2 ^ 62) ∧ R (Itr i (j - i).toNat) H1
def wE (K : PySem.W.Frag) (R : It → Hp → Prop) (vs : List V) (H1 : Hp) : Prop := ∃ a xs, vs = [.ref a] ∧ SqL K H1 a xs ∧ R (Ite K a) H1
def wZ (K : PySem.W.Frag) (R : It → Hp → Prop) (vs : List V) (H1 : Hp) : Prop := ∃ a b xs ys, vs = [.ref a, .ref b] ∧ SqL K H1 a xs ∧ SqL K H1 b ys ∧ R (Itz K a b) H1
def wV (K : PySem.W.Frag) (R : It → Hp → Prop) (vs : List V) (H1 : Hp) : Prop := ∃ (a : Addr) (xs : List V), vs = [.ref a] ∧ SqL K H1 a xs ∧ R (Itv K a xs.length) H1
theorem rd_forU (q : te σ H fun v H1 => wU K (Rf g tb D σ) v H1) : tFor (iU K te) g tb D σ H := q
theorem rd_for1 (q : ta σ H fun v H1 => wR1 (Rf g tb D σ) v H1) : tFor (iRng1 ta) g tb D σ H := q
theorem rd_for2 (q : ta σ H fun v H1 => wR2 (Rf g tb D σ) v H1) : tFor (iRng2 ta) g tb D σ H := q
theorem rd_forE (q : ta σ H fun v H1 => wE K (Rf g tb D σ) v H1) : tFor (iEnum K ta) g tb D σ H := q
theorem rd_forZ (q : ta σ H fun v H1 => wZ K (Rf g tb D σ) v H1) : tFor (iZip K ta) g tb D σ H := q
theorem rd_forV (q : ta σ H fun v H1 => wV K (Rf g tb D σ) v H1) : tFor (iRev K ta) g tb D σ H := q
theorem rd_lcU {te1 : TE} (q : te1 σ H fun v H1 => wU K (Rl g tt te ws σ Q) v H1) : tLc (iU K te1) g tt te ws σ H Q := q
theorem rd_lc1 (q : ta σ H fun v H1 => wR1 (Rl g tt te ws σ Q) v H1) : tLc (iRng1 ta) g tt te ws σ H Q := q
theorem rd_lc2 (q : ta σ H fun v H1 => wR2 (Rl g tt te ws σ Q) v H1) : tLc (iRng2 ta) g tt te ws σ H Q := q
theorem rd_lcE (q : ta σ H fun v H1 => wE K (Rl g tt te ws σ Q) v H1) : tLc (iEnum K ta) g tt te ws σ H Q := q
theorem rd_lcZ (q : ta σ H fun v H1 => wZ K (Rl g tt te ws σ Q) v H1) : tLc (iZip K ta) g tt te ws σ H Q := q
/-! a for by its invariant -/
theorem rf_it {J : It} {n : Nat} {G : Hp → Prop} {Y : Nat → Hp → V → Hp → Prop} (w : Walk J n G Y) (Pv : Nat → L2.St → Hp → Prop) (h0 : Pv 0 σ H)
    (hG : ∀ i σ H, Pv i σ H → G H) (hs : ∀ i x σ H H', i < n → Pv i σ H → Y i H x H' → g x σ H' fun σ2 H2 => tb (inD D (Pv (i + 1))) σ2 H2)
    (hd : ∀ σ H, Pv n σ H → D.nx σ H) : Rf g tb D σ J H := for_it w Pv h0 (fun i σ H _ p => hG i σ H p) hs hd
theorem fo_l {a : Addr} {xs : List V} (hx : SqL K H a xs) (Pv : Nat → L2.St → Hp → Prop) (h0 : Pv 0 σ H) (hl : ∀ i σ H, Pv i σ H → SqL K H a xs)
    (hs : ∀ i x σ H, xs[i]? = some x → Pv i σ H → g x σ H fun σ2 H2 => tb (inD D (Pv (i + 1))) σ2 H2) (hd : ∀ σ H, Pv xs.length σ H → D.nx σ H) :
    wU K (Rf g tb D σ) (.ref a) H := .inl ⟨a, rfl, ⟨xs, hx⟩, rf_it walk_list Pv h0 hl (fun i x σ H H' _ p y => by
      obtain ⟨rfl, e⟩ := y
      exact hs i x σ H' e p) hd⟩
theorem fo_t {a : Addr} {xs : List V} (hx : SqT K H a xs) (Pv : Nat → L2.St → Hp → Prop) (h0 : Pv 0 σ H) (hl : ∀ i σ H, Pv i σ H → SqT K H a xs)
    (hs : ∀ i x σ H, xs[i]? = some x → Pv i σ H → g x σ H fun σ2 H2 => tb (inD D (Pv (i + 1))) σ2 H2) (hd : ∀ σ H, Pv xs.length σ H → D.nx σ H) :
    wU K (Rf g tb D σ) (.ref a) H := .inr (.inl ⟨a, rfl, ⟨xs, hx⟩, rf_it walk_tup Pv h0 hl (fun i x σ H H' _ p y => by
      obtain ⟨rfl, e⟩ := y
      exact hs i x σ H' e p) hd⟩)
theorem fo_s {z : Str} (Pv : Nat → L2.St → Hp → Prop) (h0 : Pv 0 σ H)
    (hs : ∀ i c σ H, (tl z)[i]? = some c → Pv i σ H → g (.str ⟨#[c]⟩) σ H fun σ2 H2 => tb (inD D (Pv (i + 1))) σ2 H2) (hd : ∀ σ H, Pv z.cps.size σ H → D.nx σ H) :
    wU K (Rf g tb D σ) (.str z) H := .inr (.inr ⟨z, rfl, rf_it walk_str Pv h0 (fun _ _ _ _ => trivial) (fun i x σ H H' _ p y => by
      obtain ⟨rfl, c, e, rfl⟩ := y
      exact hs i c σ H' (by rw [← e]; simp [tl]) p) hd⟩)
theorem fo_1 {j : Int} (b1 : -(2 ^ 62) ≤ j) (b2 : j < 2 ^ 62) (Pv : Nat → L2.St → Hp → Prop) (h0 : Pv 0 σ H)
    (hs : ∀ (i : Nat) σ H, i < j.toNat → Pv i σ H → g (.int (i : Int)) σ H fun σ2 H2 => tb (inD D (Pv (i + 1))) σ2 H2) (hd : ∀ σ H, Pv j.toNat σ H → D.nx σ H) :
    wR1 (Rf g tb D σ) [.int j] H := ⟨j, rfl, b1, b2, rf_it walk_range Pv h0 (fun _ _ _ _ => trivial) (fun i x σ H H' hi p y => by
      obtain ⟨rfl, rfl⟩ := y
      have q := hs i σ H' hi p
      rw [← Int.zero_add (i : Int)] at q
      exact q) hd⟩
theorem fo_2 {k j : Int} (b : -(2 ^ 62) ≤ k ∧ k < 2 ^ 62 ∧ -(2 ^ 62) ≤ j ∧ j < 2 ^ 62) (Pv : Nat → L2.St → Hp → Prop) (h0 : Pv 0 σ H)
    (hs : ∀ (i : Nat) σ H, i < (j - k).toNat → Pv i σ H → g (.int (k + (i : Int))) σ H fun σ2 H2 => tb (inD D (Pv (i + 1))) σ2 H2) (hd : ∀ σ H, Pv (j - k).toNat σ H → D.nx σ H) :
    wR2 (Rf g tb D σ) [.int k, .int j] H := ⟨k, j, rfl, b, rf_it walk_range Pv h0 (fun _ _ _ _ => trivial) (fun i x σ H H' hi p y => by
      obtain ⟨rfl, rfl⟩ := y
      exact hs i σ H' hi p) hd⟩
theorem fo_e {a : Addr} {xs : List V} (hx : SqL K H a xs) (Pv : Nat → L2.St → Hp → Prop) (h0 : Pv 0 σ H) (hl : ∀ i σ H, Pv i σ H → SqL K H a xs)
    (hs : ∀ (i : Nat) x (T : Addr) σ H, xs[i]? = some x → H T = none → Pv i σ H → g (.ref T) σ (upd H T (.tup [.int (i : Int), x])) fun σ2 H2 => tb (inD D (Pv (i + 1))) σ2 H2)
    (hd : ∀ σ H, Pv xs.length σ H → D.nx σ H) : wE K (Rf g tb D σ) [.ref a] H := ⟨a, xs, rfl, hx, rf_it walk_enum Pv h0 hl (fun i x σ H H' _ p y => by
      obtain ⟨T, x, z, rfl, nT, rfl, e1, e2⟩ := y
      cases e1
      exact hs i z T σ H e2 nT p) hd⟩
theorem fo_z {a b : Addr} {xs ys : List V} (hx : SqL K H a xs) (hy : SqL K H b ys) (Pv : Nat → L2.St → Hp → Prop) (h0 : Pv 0 σ H)
    (hl : ∀ i σ H, Pv i σ H → SqL K H a xs ∧ SqL K H b ys)
    (hs : ∀ (i : Nat) x y (T : Addr) σ H, xs[i]? = some x → ys[i]? = some y → H T = none → Pv i σ H → g (.ref T) σ (upd H T (.tup [x, y])) fun σ2 H2 => tb (inD D (Pv (i + 1))) σ2 H2)
    (hd : ∀ σ H, Pv (min xs.length ys.length) σ H → D.nx σ H) : wZ K (Rf g tb D σ) [.ref a, .ref b] H :=
  ⟨a, b, xs, ys, rfl, hx, hy, rf_it (walk_zip rfl) Pv h0 hl (fun i x σ H H' _ p y => by
      obtain ⟨T, x, z, rfl, nT, rfl, e1, e2⟩ := y
      exact hs i x z T σ H e1 e2 nT p) hd⟩
/-- reversed: the i-th from the end -/
theorem fo_v {a : Addr} {xs : List V} (hx : SqL K H a xs) (Pv : Nat → L2.St → Hp → Prop) (h0 : Pv 0 σ H) (hl : ∀ i σ H, Pv i σ H → SqL K H a xs)
    (hs : ∀ i x σ H, i < xs.length → xs[xs.length - 1 - i]? = some x → Pv i σ H → g x σ H fun σ2 H2 => tb (inD D (Pv (i + 1))) σ2 H2) (hd : ∀ σ H, Pv xs.length σ H → D.nx σ H) :
    wV K (Rf g tb D σ) [.ref a] H := ⟨a, xs, rfl, hx, rf_it walk_rev Pv h0 hl (fun i x σ H H' hi p y => by
      obtain ⟨rfl, e⟩ := y
      exact hs i x σ H' hi e p) hd⟩
/-! a comprehension by its invariant -/
/-- one turn: the item's text, kept or not -/
def lcT (g : TG) (tt : TT) (te : TE) (ws : List Nat) (σ : L2.St) (D : Addr) (P : Hp → Prop) (x : V) (H' : Hp) : Prop :=
  g x (wipe σ ws) H' fun σ2 H2 => wipe σ2 ws = wipe σ ws ∧ tt σ2 H2 fun b H3 =>
      if b = true then te σ2 H3 fun y H4 => ∃ acc, H4 D = some (.lst acc) ∧ acc.length < sizeLine ∧ P (upd H4 D (.lst (acc ++ [y]))) else P H3
theorem rl_it {J : It} {n : Nat} {G : Hp → Prop} {Y : Nat → Hp → V → Hp → Prop} (w : Walk J n G Y)
    (h : ∀ C, H C = none → ∃ Pv : Nat → Hp → Prop, Pv 0 (upd H C (.lst [])) ∧ (∀ i H, Pv i H → G H) ∧
      (∀ i x H H', i < n → Pv i H → Y i H x H' → lcT g tt te ws σ C (Pv (i + 1)) x H') ∧ ∀ H, Pv n H → Q (.ref C) H) : Rl g tt te ws σ Q J H := by
  intro C hC
  obtain ⟨Pv, h0, hG, hs, hd⟩ := h C hC
  refine ⟨fun i m H => m = n - i ∧ i ≤ n ∧ Pv i H, ⟨n, by simp, Nat.zero_le _, h0⟩, ?_⟩
  rintro i m H ⟨rfl, hi, p⟩
  by_cases hlt : i < n
  · exact .inr ⟨w.goes i H hlt (hG i H p), Pv (i + 1), fun H' p' => ⟨n - (i + 1), by omega, rfl, hlt, p'⟩, fun x H' y => hs i x H H' hlt p (w.yields i H x H' hlt (hG i H p) y)⟩
  · have e : i = n := by omega
    subst e
    exact .inl ⟨w.stops H (hG i H p), hd H p⟩
theorem co_l {a : Addr} {xs : List V} (hx : SqL K H a xs) (h : ∀ C, H C = none → ∃ Pv : Nat → Hp → Prop, Pv 0 (upd H C (.lst [])) ∧ (∀ i H, Pv i H → SqL K H a xs) ∧
      (∀ i x H, xs[i]? = some x → Pv i H → lcT g tt te ws σ C (Pv (i + 1)) x H) ∧ ∀ H, Pv xs.length H → Q (.ref C) H) : wU K (Rl g tt te ws σ Q) (.ref a) H :=
  .inl ⟨a, rfl, ⟨xs, hx⟩, rl_it walk_list fun C hC => by
    obtain ⟨Pv, h0, hG, hs, hd⟩ := h C hC
    refine ⟨Pv, h0, hG, fun i x H H' _ p y => ?_, hd⟩
    obtain ⟨rfl, e⟩ := y
    exact hs i x H' e p⟩
theorem co_s {z : Str} (h : ∀ C, H C = none → ∃ Pv : Nat → Hp → Prop, Pv 0 (upd H C (.lst [])) ∧
      (∀ i c H, (tl z)[i]? = some c → Pv i H → lcT g tt te ws σ C (Pv (i + 1)) (.str ⟨#[c]⟩) H) ∧ ∀ H, Pv z.cps.size H → Q (.ref C) H) : wU K (Rl g tt te ws σ Q) (.str z) H :=
  .inr (.inr ⟨z, rfl, rl_it walk_str fun C hC => by
    obtain ⟨Pv, h0, hs, hd⟩ := h C hC
    refine ⟨Pv, h0, fun _ _ _ => trivial, fun i x H H' _ p y => ?_, hd⟩
    obtain ⟨rfl, c, e, rfl⟩ := y
    exact hs i c H' (by rw [← e]; simp [tl]) p⟩)
theorem co_1 {j : Int} (b1 : -(2 ^ 62) ≤ j) (b2 : j < 2 ^ 62) (h : ∀ C, H C = none → ∃ Pv : Nat → Hp → Prop, Pv 0 (upd H C (.lst [])) ∧
      (∀ (i : Nat) H, i < j.toNat → Pv i H → lcT g tt te ws σ C (Pv (i + 1)) (.int (i : Int)) H) ∧ ∀ H, Pv j.toNat H → Q (.ref C) H) : wR1 (Rl g tt te ws σ Q) [.int j] H :=
  ⟨j, rfl, b1, b2, rl_it walk_range fun C hC => by
    obtain ⟨Pv, h0, hs, hd⟩ := h C hC
    refine ⟨Pv, h0, fun _ _ _ => trivial, fun i x H H' hi p y => ?_, hd⟩
    obtain ⟨rfl, rfl⟩ := y
    have q := hs i H' hi p
    rw [← Int.zero_add (i : Int)] at q
    exact q⟩
theorem co_e {a : Addr} {xs : List V} (hx : SqL K H a xs) (h : ∀ C, H C = none → ∃ Pv : Nat → Hp → Prop, Pv 0 (upd H C (.lst [])) ∧ (∀ i H, Pv i H → SqL K H a xs) ∧
      (∀ (i : Nat) x (T : Addr) H, xs[i]? = some x → H T = none → Pv i H → lcT g tt te ws σ C (Pv (i + 1)) (.ref T) (upd H T (.tup [.int (i : Int), x]))) ∧ ∀ H, Pv xs.length H → Q (.ref C) H) :
    wE K (Rl g tt te ws σ Q) [.ref a] H := ⟨a, xs, rfl, hx, rl_it walk_enum fun C hC => by
    obtain ⟨Pv, h0, hG, hs, hd⟩ := h C hC
    refine ⟨Pv, h0, hG, fun i x H H' _ p y => ?_, hd⟩
    obtain ⟨T, x, z, rfl, nT, rfl, e1, e2⟩ := y
    cases e1
    exact hs i z T H e2 nT p⟩
theorem co_z {a b : Addr} {xs ys : List V} (hx : SqL K H a xs) (hy : SqL K H b ys) (h : ∀ C, H C = none → ∃ Pv : Nat → Hp → Prop, Pv 0 (upd H C (.lst [])) ∧
      (∀ i H, Pv i H → SqL K H a xs ∧ SqL K H b ys) ∧ (∀ (i : Nat) x y (T : Addr) H, xs[i]? = some x → ys[i]? = some y → H T = none → Pv i H →
        lcT g tt te ws σ C (Pv (i + 1)) (.ref T) (upd H T (.tup [x, y]))) ∧ ∀ H, Pv (min xs.length ys.length) H → Q (.ref C) H) :
    wZ K (Rl g tt te ws σ Q) [.ref a, .ref b] H := ⟨a, b, xs, ys, rfl, hx, hy, rl_it (walk_zip rfl) fun C hC => by
    obtain ⟨Pv, h0, hG, hs, hd⟩ := h C hC
    refine ⟨Pv, h0, hG, fun i x H H' _ p y => ?_, hd⟩
    obtain ⟨T, x, z, rfl, nT, rfl, e1, e2⟩ := y
    exact hs i x z T H e1 e2 nT p⟩
theorem rd_lcT {P : Hp → Prop} {C : Addr} {x : V} (q : g x (wipe σ ws) H fun σ2 H2 => wipe σ2 ws = wipe σ ws ∧ tt σ2 H2 fun b H3 =>
      if b = true then te σ2 H3 fun y H4 => ∃ acc, H4 C = some (.lst acc) ∧ acc.length < sizeLine ∧ P (upd H4 C (.lst (acc ++ [y]))) else P H3) : lcT g tt te ws σ C P x H := q
theorem rd_yes {Q : Bool → Hp → Prop} (q : Q true H) : tYes σ H Q := q
/-! comprehensions that leave all that is tracked as it is: filter and map -/
/-- one turn, told by what the item gives -/
def TurnF (g : TG) (tt : TT) (te : TE) (ws : List Nat) (σ : L2.St) (H : Hp) (x : V) (b : Bool) (y : V) : Prop :=
  ∀ (C : Addr) (acc : List V) (P : Hp → Prop) (H' : Hp), Kp [] H H' → H' C = some (.lst acc) → acc.length < sizeLine →
    (∀ H4, Kp [] H' H4 → if b = true then P (upd H4 C (.lst (acc ++ [y]))) else P H4) → lcT g tt te ws σ C P x H'
theorem filt_step {α β : Type} (p : α → Bool) (f : α → β) (ys : List α) (i : Nat) (y : α) (e : ys[i]? = some y) :
    ((ys.take (i + 1)).filter p).map f = ((ys.take i).filter p).map f ++ (if p y then [f y] else []) := by
  rw [List.take_add_one, e, Option.toList_some, List.filter_append, List.map_append]
  congr 1
  by_cases h : p y = true
  · simp [h]
  · simp [h]
theorem filt_len {α β : Type} (p : α → Bool) (f : α → β) (ys : List α) (i : Nat) : (((ys.take i).filter p).map f).length ≤ ys.length := by
  rw [List.length_map]
  exact Nat.le_trans (List.length_filter_le _ _) (by rw [List.length_take]; omega)
theorem co_sF {z : Str} (p : Nat → Bool) (f : Nat → V) (hz : z.length < sizeLine) (ht : ∀ c ∈ tl z, TurnF g tt te ws σ H (.str ⟨#[c]⟩) (p c) (f c))
    (q : ∀ C H', H C = none → Kp [] H H' → H' C = some (.lst (((tl z).filter p).map f)) → Q (.ref C) H') : wU K (Rl g tt te ws σ Q) (.str z) H := by
  refine co_s fun C hC => ⟨fun i H' => Kp [] H H' ∧ H' C = some (.lst ((((tl z).take i).filter p).map f)), ⟨Kp.refl.new hC, upd_same⟩, ?_, ?_⟩
  · rintro i c H' e ⟨k, h⟩
    have hm : c ∈ tl z := List.mem_of_getElem? e
    refine ht c hm C _ _ H' k h (Nat.lt_of_le_of_lt (filt_len p f (tl z) i) (by rw [← TL.len_tl]; exact hz)) fun H4 k4 => ?_
    have st := filt_step p f (tl z) i c e
    by_cases b : p c = true
    · rw [if_pos b]
      rw [if_pos b] at st
      exact ⟨(k.call0 k4).mutN hC, by rw [upd_same, st]⟩
    · rw [if_neg b]
      rw [if_neg b, List.append_nil] at st
      exact ⟨k.call0 k4, by rw [st]; exact k4.get0 h⟩
  · rintro H' ⟨k, h⟩
    refine q C H' hC k ?_
    rw [h, List.take_of_length_le (by simp [tl])]
theorem co_lF {α : Type} {a : Addr} {ys : List α} (m : α → V) (p : α → Bool) (f : α → V) (hx : SqL K H a (ys.map m)) (hz : ys.length < sizeLine) (ht : ∀ y ∈ ys, TurnF g tt te ws σ H (m y) (p y) (f y))
    (q : ∀ C H', H C = none → Kp [] H H' → H' C = some (.lst ((ys.filter p).map f)) → Q (.ref C) H') : wU K (Rl g tt te ws σ Q) (.ref a) H := by
  refine co_l hx fun C hC => ⟨fun i H' => Kp [] H H' ∧ H' C = some (.lst (((ys.take i).filter p).map f)), ⟨Kp.refl.new hC, upd_same⟩, fun i H' h => h.1.same.seq hx, ?_, ?_⟩
  · rintro i x H' e ⟨k, h⟩
    rw [List.getElem?_map] at e
    obtain ⟨y, ey, rfl⟩ := Option.map_eq_some_iff.mp e
    have hm : y ∈ ys := List.mem_of_getElem? ey
    refine ht y hm C _ _ H' k h (Nat.lt_of_le_of_lt (filt_len p f ys i) hz) fun H4 k4 => ?_
    have st := filt_step p f ys i y ey
    by_cases b : p y = true
    · rw [if_pos b]
      rw [if_pos b] at st
      exact ⟨(k.call0 k4).mutN hC, by rw [upd_same, st]⟩
    · rw [if_neg b]
      rw [if_neg b, List.append_nil] at st
      exact ⟨k.call0 k4, by rw [st]; exact k4.get0 h⟩
  · rintro H' ⟨k, h⟩
    refine q C H' hC k ?_
    rw [h, List.take_of_length_le (by simp)]
end
end Gd
/-! What a term of a def's body is made of, further. -/
namespace Gd
open PySem PySem.Spec PyProof.Rows L2

/-- a def of the module, by its name: where it stands and what it promises -/
structure GC (P : Program) (w : World) (K : PySem.W.Frag) (mg : Str → Option Value) (base : Heap) (k : Nat) (x : Str) (sp : Sp) : Prop where
  ex : ∃ (f : Addr) (fd : FuncData) (ps : List Str), mg x = some (.ref f) ∧ PySem.W.keepIn K (.ref f) = true ∧ Binds K fd ps [] ∧ GFn P w K mg base CX0 k f fd ps sp
section
variable {X : Cx} {k j : Nat} {sp : Sp} {x : Str} {p pos : Pos} {e : Expr} {es : List Expr} {t : TA} {ta tb tc : TE} {a b c : Expr}
theorem pe_gc (cc : GC X.prog X.w X.K X.mg X.base k x sp) (gd : X.A.guards = some []) (hr : Room j X.A) (hk : k ≤ j) (hg : Gl X x) (ha : PA X (e :: es) t)
    (hdb : (x == ("__debug__" : Str)) = false := by decide) (he : starEach (e :: es) X.env = (false, eval e X.env) :: starEach es X.env := by rfl)
    (hpl : (backTo pos (starEach es X.env)).any (·.1) = false := by rfl) : PE X (.Call (.Name x p) (e :: es) [] pos) (tCall sp [] E0 t) := by
  obtain ⟨f, fd, ps, h1, h2, h3, h4⟩ := cc.ex
  exact pe_callG h4 gd (hr.mono hk) hg h1 h2 h3 .nil pass0 ha hdb he hpl
theorem pt_u (ha : PE X a ta) (he : ∀ whole, isTrue a X.env whole = (do let v ← whole; standAt a.pos; holding [v] (truthy v))) : PT X a (uTru X.K ta) := pt_truth ha he
theorem hrep {A : Around} (hr : Room k A) : A.units + 100 < cLine := by
  have := hr.un
  omega
theorem u_ixL {K : PySem.W.Frag} {H : Hp} {Q : VK} {a : Addr} {xs : List V} {i : Int} {v : V} (h : SqL K H a xs) (e : atI xs i = some v) (q : Q v H) : rIx K (.ref a) (.int i) H Q := .inl ⟨a, xs, i, v, rfl, rfl, h, e, q⟩
theorem u_ixT {K : PySem.W.Frag} {H : Hp} {Q : VK} {a : Addr} {xs : List V} {i : Int} {v : V} (h : SqT K H a xs) (e : atI xs i = some v) (q : Q v H) : rIx K (.ref a) (.int i) H Q := .inr (.inl ⟨a, xs, i, v, rfl, rfl, h, e, q⟩)
theorem u_ixS {K : PySem.W.Frag} {H : Hp} {Q : VK} {z : Str} {i : Int} {c : Nat} (h : z.length ≤ sizeLine) (e : atI (tl z) i = some c) (q : Q (.str ⟨#[c]⟩) H) : rIx K (.str z) (.int i) H Q := .inr (.inr ⟨z, i, c, rfl, rfl, h, e, q⟩)
theorem u_setL {H : Hp} {Q : Hp → Prop} {p : Addr} {xs : List V} {k : Int} {j : Nat} {v : V} (h : H p = some (.lst xs)) (e : ixN xs.length k = some j) (q : Q (upd H p (.lst (xs.set j v)))) : rSetL (.ref p) (.int k) v H Q :=
  ⟨p, xs, k, j, rfl, rfl, h, e, q⟩
theorem atI_of {α : Type} {xs : List α} {i : Int} {v : α} (h0 : 0 ≤ i) (e : xs[i.toNat]? = some v) : atI xs i = some v := by
  have q := atI_nat e
  rw [Int.toNat_of_nonneg h0] at q
  exact q
theorem atI_lt {α : Type} {xs : List α} {i : Int} (h0 : 0 ≤ i) (h1 : i < xs.length) : ∃ v, atI xs i = some v ∧ v ∈ xs := by
  have h2 : i.toNat < xs.length := by omega
  exact ⟨xs[i.toNat], atI_of h0 (by simp [h2]), List.getElem_mem h2⟩
theorem bits_le {i : Int} {n : Nat} (h0 : 0 < n) (h : i.natAbs < 2 ^ n) : Builtin.Int.intBits i ≤ n := by
  have e := PySem.Flt.log2_lt_of h0 h
  unfold Builtin.Int.intBits
  split <;> omega
theorem powW {i j : Int} {n : Nat} (h0 : 0 < n) (h : i.natAbs < 2 ^ n) (h1 : 0 ≤ j) (h2 : (n : Int) * j ≤ 2 ^ 27) : CPowW i j := by
  have e := bits_le h0 h
  refine ⟨h1, Int.le_trans (Int.mul_le_mul_of_nonneg_right ?_ h1) h2⟩
  exact Int.ofNat_le.mpr e
theorem u_modB {H : Hp} {Q : VK} {a b : Int} (h : 0 < b) (q : ∀ r, 0 ≤ r → r < b → Q (.int r) H) : uMod (.int a) (.int b) H Q :=
  u_mod h (q _ (Int.emod_nonneg _ (by omega)) (Int.emod_lt_of_pos _ h))
theorem ite_nt {A B : Prop} (h : B) : if (!true) = true then A else B := h
theorem ite_nf {A B : Prop} (h : A) : if (!false) = true then A else B := h
theorem tr_p2 {P : V → V → Prop} {a b : V} (q : P a b) : ∃ v w, [a, b] = [v, w] ∧ P v w := ⟨a, b, rfl, q⟩
theorem tr_p3 {P : V → V → V → Prop} {a b c : V} (q : P a b c) : ∃ v w z, [a, b, c] = [v, w, z] ∧ P v w z := ⟨a, b, c, rfl, q⟩
theorem tr_str {R : Prop} {x : Str} (q : R) : (∃ a, V.str x = V.str a) ∧ R := ⟨⟨x, rfl⟩, q⟩
theorem tr_ss {P : Str → Str → Prop} {x y : Str} (q : P x y) : ∃ a b, V.str x = V.str a ∧ [V.str y] = [V.str b] ∧ P a b := ⟨x, y, rfl, rfl, q⟩
theorem dp_map {α : Type} {K : PySem.W.Frag} {H : Hp} (f : α → V) (g : α → PyData) : ∀ ys : List α, (∀ y ∈ ys, Dp K H (f y) (g y)) → DpAll K H (ys.map f) (ys.map g)
  | [], _ => .nil
  | y :: ys, h => .cons (h y (by simp)) (dp_map f g ys fun z hz => h z (by simp [hz]))
theorem log_small {j : Int} (h : j.natAbs < 18446744073709551616) : j.natAbs.log2 < 9000 := by
  have h2 : j.natAbs < 2 ^ 64 := Nat.lt_of_lt_of_le h (by decide)
  have e := PySem.Flt.log2_lt_of (show 0 < 64 by decide) h2
  omega
theorem len_app (a b : Str) : (a ++ b).length = a.length + b.length := by
  rw [TL.len_tl, TL.len_tl, TL.len_tl, TL.tl_append, List.length_append]
theorem len_one (c : Nat) : (⟨#[c]⟩ : Str).length = 1 := rfl
theorem mem_app {a b : Str} {c : Nat} : c ∈ tl (a ++ b) ↔ c ∈ tl a ∨ c ∈ tl b := by
  rw [show tl (a ++ b) = tl a ++ tl b from TL.tl_append a b, List.mem_append]
theorem mem_one {c d : Nat} : c ∈ tl (⟨#[d]⟩ : Str) ↔ c = d := by simp [tl]
theorem tr_m0 {C P : Str → Prop} {x : Str} (h : C x) (q : P x) : ∃ a, V.str x = V.str a ∧ ([] : List V) = [] ∧ C a ∧ P a := ⟨x, rfl, rfl, h, q⟩
theorem rd_dnew {σ : L2.St} {H : Hp} {Q : VK} (q : ∀ p, H p = none → Q (.ref p) (upd H p (.dK []))) : tDNewK σ H Q := q
theorem al_of {H H' : Hp} {p : Addr} {o : HO} (np : H p = none) (g : upd H p o = H') : Kp [] H H' ∧ H' p = some o := by
  subst g
  exact ⟨Kp.refl.new np, upd_same⟩
theorem rd_isB {H : Hp} {Q : VK} {a b : Bool} (q : Q (.bl (decide (a = b))) H) : rIsB (.bl a) (.bl b) H Q := ⟨a, b, rfl, rfl, q⟩
theorem rd_gtup {K : PySem.W.Frag} {σ : L2.St} {H : Hp} {n : Nat} {t : TGs} {Q : L2.St → Hp → Prop} {a : Addr} {xs : List V} (h : SqT K H a xs) (e : xs.length = n) (q : t xs σ H Q) : gTup K n t (.ref a) σ H Q := ⟨a, xs, rfl, h, e, q⟩
theorem rd_gcons {σ : L2.St} {H : Hp} {t : TG} {u : TGs} {v : V} {r : List V} {Q : L2.St → Hp → Prop} (q : t v σ H fun σ' H' => u r σ' H' Q) : gCons t u (v :: r) σ H Q := ⟨v, r, rfl, q⟩
theorem rd_gnil {σ : L2.St} {H : Hp} {Q : L2.St → Hp → Prop} (q : Q σ H) : gNil [] σ H Q := ⟨rfl, q⟩
theorem u_eqQ {K : PySem.W.Frag} {H : Hp} {Q : VK} {a b : Addr} {xs : List V} {ds : List PyData} (h1 : SqL K H a xs) (h2 : H b = some (.lst [])) (hd : DpAll K H xs ds)
    (hs : SeqAt.shaped (.list ds) = true) (q : Q (.bl ds.isEmpty) H) : uEq K (.ref a) (.ref b) H Q := by
  refine u_eqD (.lst h1 hd) (.lst (SqL.of h2) .nil) hs (by decide +kernel) ?_
  rw [show PyData.eqv (.list ds) (.list []) = ds.isEmpty by cases ds <;> simp [PyData.eqv, PyData.eqvAll]]
  exact q
theorem cutV_to (xs : List V) {d : Int} (h : 0 ≤ d) : cutV xs none (some d) = xs.take d.toNat := by
  unfold cutV
  have e := HT.sIx_nat xs.length xs.length d.toNat
  rw [Int.toNat_of_nonneg h] at e
  rw [e, HT.sIx_none, List.drop_zero, Nat.sub_zero]
  by_cases hd : d.toNat ≤ xs.length
  · rw [Nat.min_eq_left hd]
  · rw [Nat.min_eq_right (by omega), List.take_of_length_le (by omega), List.take_of_length_le (by omega)]
theorem Dq.imp {N M : Addr → Prop} {H : Hp} {v : V} {d : PyData} (h : Dq N H v d) (m : ∀ b, N b → M b) : Dq M H v d := Dq.mono (fun _ _ _ e => e) m d v h
theorem DqL.imp {N M : Addr → Prop} {H : Hp} {v : List V} {d : List PyData} (h : DqL N H v d) (m : ∀ b, N b → M b) : DqL M H v d := DqL.mono (fun _ _ _ e => e) m d v h
theorem DqT.kp0 {N : Addr → Prop} {H H' : Hp} {v : V} {d : PyData} (h : DqT N H v d) (k : Kp [] H H') : DqT N H' v d := by
  cases h with
  | of h => exact .of (h.kp0 k)
  | d0 n h => exact .d0 n (k.get0 h)
theorem TyN.kp0 {K : PySem.W.Frag} {H H' : Hp} {v : V} {T : String} (h : TyN K H v T) (k : Kp [] H H') : TyN K H' v T := by
  cases h with
  | non => exact .non
  | bl b => exact .bl b
  | int i => exact .int i
  | str s => exact .str s
  | lst h => exact .lst (k.same.seq h)
  | tup h => exact .tup (k.get0 h)
  | dct h => exact .dct (k.get0 h)
theorem sm_strs {ws : List Str} {n m : Nat} (hn : ws.length ≤ n) (h : ∀ w ∈ ws, w.length ≤ m ∧ ∀ c ∈ tl w, c < 1114112) (hz : n * (10 * m + 4) ≤ 9000000) : Sm (.list (ws.map PyData.str)) := by
  have f : ∀ l : List Str, (∀ w ∈ l, w.length ≤ m ∧ ∀ c ∈ tl w, c < 1114112) → fineAll (l.map PyData.str) = true ∧ szAll (l.map PyData.str) ≤ l.length * (10 * m + 4) ∧ PyData.depthAll (l.map PyData.str) = 0 := by
    intro l
    induction l with
    | nil => exact fun _ => ⟨rfl, by simp [szAll], by simp [PyData.depthAll]⟩
    | cons w l ih =>
      intro hw
      obtain ⟨h1, h2, h3⟩ := ih fun x hx => hw x (by simp [hx])
      obtain ⟨g1, g2⟩ := hw w (by simp)
      refine ⟨?_, ?_, ?_⟩
      · simp only [List.map_cons, fineAll, h1, Bool.and_true, fine, List.all_eq_true, decide_eq_true_eq]
        exact g2
      · simp only [List.map_cons, szAll, sz, List.length_cons, Nat.add_mul]
        omega
      · simp only [List.map_cons, PyData.depthAll, h3, PyData.depth]
        rfl
  obtain ⟨h1, h2, h3⟩ := f ws h
  have h4 : ws.length * (10 * m + 4) ≤ n * (10 * m + 4) := Nat.mul_le_mul_right _ hn
  refine ⟨by simp only [fine]; exact h1, ?_, ?_⟩
  · simp only [sz]
    omega
  · simp only [PyData.depth, h3]
    decide
/-- a sign of a written text, at a drawn place -/
theorem u_ixSC {K : PySem.W.Frag} {H : Hp} {Q : VK} {z : Str} {i : Int} {n m : Nat} (h0 : 0 ≤ i) (h1 : i < (n : Int)) (hn : (tl z).length = n) (hz : z.length ≤ sizeLine) (hb : ∀ x ∈ tl z, x < m)
    (q : ∀ c ∈ tl z, c < m → Q (.str ⟨#[c]⟩) H) : rIx K (.str z) (.int i) H Q := by
  obtain ⟨c, ec, mc⟩ := atI_lt (xs := tl z) h0 (by rw [hn]; exact h1)
  exact u_ixS hz ec (q c mc (hb c mc))
theorem tr_ii {P : Int → Int → Prop} {a b : Int} (q : P a b) : ∃ i j, [V.int a, V.int b] = [V.int i, V.int j] ∧ P i j := ⟨a, b, rfl, q⟩
theorem sz_and {n : Nat} {P : Prop} (h : n ≤ sizeLine) (q : P) : n ≤ sizeLine ∧ P := ⟨h, q⟩
theorem tr_bls {K : PySem.W.Frag} {H : Hp} {P : List Bool → Prop} {a : Addr} {bs : List Bool} (h : H a = some (.lst (bs.map V.bl))) (q : P bs) :
    ∃ (a' : Addr) (bs' : List Bool), [V.ref a] = [V.ref a'] ∧ SqL K H a' (bs'.map V.bl) ∧ P bs' := ⟨a, bs, rfl, SqL.of h, q⟩
/-- a list against the empty one -/
theorem u_eqN {K : PySem.W.Frag} {H : Hp} {Q : VK} {a b : Addr} {xs : List V} {ds : List PyData} (h1 : H a = some (.lst xs)) (h2 : H b = some (.lst [])) (hd : DpAll K H xs ds)
    (hs : SeqAt.shaped (.list ds) = true) (q : Q (.bl ds.isEmpty) H) : uEq K (.ref a) (.ref b) H Q := by
  refine u_eqD (.lst (SqL.of h1) hd) (.lst (SqL.of h2) .nil) hs (by decide +kernel) ?_
  rw [show PyData.eqv (.list ds) (.list []) = ds.isEmpty by cases ds <;> simp [PyData.eqv, PyData.eqvAll]]
  exact q
theorem u_neN {K : PySem.W.Frag} {H : Hp} {Q : VK} {a b : Addr} {xs : List V} {ds : List PyData} (h1 : H a = some (.lst xs)) (h2 : H b = some (.lst [])) (hd : DpAll K H xs ds)
    (hs : SeqAt.shaped (.list ds) = true) (q : Q (.bl (!ds.isEmpty)) H) : uNe K (.ref a) (.ref b) H Q := by
  refine u_neD (.lst (SqL.of h1) hd) (.lst (SqL.of h2) .nil) hs (by decide +kernel) ?_
  rw [show PyData.eqv (.list ds) (.list []) = ds.isEmpty by cases ds <;> simp [PyData.eqv, PyData.eqvAll]]
  exact q
theorem dp_strs {K : PySem.W.Frag} {H : Hp} : ∀ ws : List Str, DpAll K H (ws.map V.str) (ws.map PyData.str)
  | [] => .nil
  | w :: ws => .cons (.str w) (dp_strs ws)
theorem dp_ints {K : PySem.W.Frag} {H : Hp} : ∀ ws : List Int, DpAll K H (ws.map V.int) (ws.map PyData.int)
  | [] => .nil
  | w :: ws => .cons (.int w) (dp_ints ws)
theorem layAll_map {α : Type} (f : α → PyData) : ∀ ws : List α, (∀ w ∈ ws, (f w).canLay0 = true) → PyData.canLayAll0 (ws.map f) = true
  | [], _ => by simp [PyData.canLayAll0]
  | w :: ws, h => by
    rw [List.map_cons, PyData.canLayAll0, h w (by simp), layAll_map f ws fun v hv => h v (by simp [hv])]
    rfl
theorem depAll_map {α : Type} (f : α → PyData) (n : Nat) : ∀ ws : List α, (∀ w ∈ ws, (f w).depth ≤ n) → PyData.depthAll (ws.map f) ≤ n
  | [], _ => by simp [PyData.depthAll]
  | w :: ws, h => by
    rw [List.map_cons, PyData.depthAll]
    exact Nat.max_le.mpr ⟨h w (by simp), depAll_map f n ws fun v hv => h v (by simp [hv])⟩
theorem shaped_map {α : Type} (f : α → PyData) (ws : List α) (h : ∀ w ∈ ws, (f w).canLay0 = true ∧ (f w).depth ≤ 63) : SeqAt.shaped (.list (ws.map f)) = true := by
  unfold SeqAt.shaped
  rw [Bool.and_eq_true, decide_eq_true_eq]
  refine ⟨?_, ?_⟩
  · rw [PyData.canLay0]
    exact layAll_map f ws fun w hw => (h w hw).1
  · rw [PyData.depth]
    have := depAll_map f 63 ws fun w hw => (h w hw).2
    omega
theorem shaped_strs (ws : List Str) (h : ∀ w ∈ ws, PyData.strOk w = true) : SeqAt.shaped (.list (ws.map PyData.str)) = true :=
  shaped_map _ ws fun w hw => ⟨by rw [PyData.canLay0]; exact h w hw, by simp [PyData.depth]⟩
theorem shaped_ints (ws : List Int) : SeqAt.shaped (.list (ws.map PyData.int)) = true :=
  shaped_map _ ws fun w hw => ⟨by rw [PyData.canLay0], by simp [PyData.depth]⟩
theorem strOk_iff (z : Str) : PyData.strOk z = true ↔ ∀ c ∈ tl z, c < 1114112 := by
  unfold PyData.strOk tl
  rw [← Array.all_toList, List.all_eq_true]
  constructor
  · intro h c hc
    exact of_decide_eq_true (h c hc)
  · intro h c hc
    exact decide_eq_true (h c hc)
theorem isEmpty_filter {α β : Type} (p : α → Bool) (f : α → β) (ys : List α) : ((ys.filter p).map f).isEmpty = ys.all (fun y => !p y) := by
  rw [List.isEmpty_map]
  induction ys with
  | nil => rfl
  | cons y ys ih =>
    rw [List.filter_cons, List.all_cons]
    cases h : p y
    · simp [ih]
    · simp
theorem lt_one (c d : Nat) : decide (([c] : List Nat) < [d]) = decide (c < d) := by
  rw [decide_eq_decide]
  simp [List.cons_lt_cons_iff]
theorem pss_cut {st : Stmt} {rest : List Stmt} {t u : TS} (h1 : PS X st t) (h2 : PSs X rest u) : PSs X (st :: rest) (C8.tCut t u) := C8.pss_cut h1 h2
theorem rd_cut {σ : L2.St} {H : Hp} {D : Ends} {t u : TS} (M : L2.St → Hp → Prop) (h1 : t { D with nx := M } σ H) (h2 : ∀ σ' H', M σ' H' → u D σ' H') : C8.tCut t u D σ H := ⟨M, h1, h2⟩
/-! slices of anything -/
def uSl (K : PySem.W.Frag) : V → Option Int → Option Int → Hp → VK → Prop := fun x lo hi H Q => rSlS x lo hi H Q ∨ rSlL K x lo hi H Q ∨ rSlT K x lo hi H Q
theorem sl_u : SlR X (uSl X.K) := SlR.or sl_str (SlR.or sl_list sl_tup)
theorem u_slS {K : PySem.W.Frag} {H : Hp} {Q : VK} {z : Str} {lo hi : Option Int} (h : z.length ≤ sizeLine) (q : Q (.str (cutS z lo hi)) H) : uSl K (.str z) lo hi H Q := .inl ⟨z, rfl, h, q⟩
theorem u_slL {K : PySem.W.Frag} {H : Hp} {Q : VK} {p : Addr} {xs : List V} {lo hi : Option Int} (h : SqL K H p xs) (q : ∀ p, H p = none → Q (.ref p) (upd H p (.lst (cutV xs lo hi)))) :
    uSl K (.ref p) lo hi H Q := .inr (.inl ⟨p, xs, rfl, h, q⟩)
theorem sIx0 (n d : Nat) : HT.sIx n d (some (0 : Int)) = 0 := by
  have := HT.sIx_nat n d 0
  simpa using this
theorem cut_to (z : Str) {d : Int} (h : 0 ≤ d) : tl (cutS z none (some d)) = (tl z).take d.toNat := by
  unfold cutS tl
  have e := HT.sIx_nat z.length z.length d.toNat
  rw [Int.toNat_of_nonneg h] at e
  rw [e, HT.sIx_none]
  simp only [List.drop_zero, Nat.sub_zero]
  have el : z.cps.toList.length = z.length := by simp [Str.length]
  by_cases hd : d.toNat ≤ z.length
  · rw [Nat.min_eq_left hd]
  · rw [Nat.min_eq_right (by omega), List.take_of_length_le (by omega), List.take_of_length_le (by omega)]
theorem cut_from (z : Str) {d : Int} (h : 0 ≤ d) : tl (cutS z (some d) none) = (tl z).drop d.toNat := by
  unfold cutS tl
  have e := HT.sIx_nat z.length 0 d.toNat
  rw [Int.toNat_of_nonneg h] at e
  rw [e, HT.sIx_none]
  have el : z.cps.toList.length = z.length := by simp [Str.length]
  by_cases hd : d.toNat ≤ z.length
  · rw [Nat.min_eq_left hd, List.take_of_length_le (by rw [List.length_drop]; omega)]
  · rw [Nat.min_eq_right (by omega), List.drop_of_length_le (by omega), List.drop_of_length_le (by omega)]
    simp
theorem cut_mem {z : Str} {lo hi : Option Int} {c : Nat} (h : c ∈ tl (cutS z lo hi)) : c ∈ tl z := List.mem_of_mem_drop (List.mem_of_mem_take h)
theorem cut_to_len (z : Str) {d : Int} (h : 0 ≤ d) : (cutS z none (some d)).length = min d.toNat z.length := by
  rw [TL.len_tl, show TL.tl (cutS z none (some d)) = tl (cutS z none (some d)) from rfl, cut_to z h, List.length_take, ← TL.len_tl]
theorem rd_rU {g : Int → V} {i : Int} {H : Hp} {Q : VK} (q : Q (g i) H) : rU g (.int i) H Q := ⟨i, rfl, q⟩
theorem u_app {H : Hp} {Q : VK} {l : Addr} {xs : List V} {y : V} (h : H l = some (.lst xs)) (hz : xs.length < sizeLine) (q : Q .non (upd H l (.lst (xs ++ [y])))) : rAppend (.ref l) [y] H Q :=
  ⟨l, xs, y, rfl, rfl, h, hz, q⟩
theorem ty_l {K : PySem.W.Frag} {H : Hp} {p : Addr} {xs : List V} {R : Prop} (h : H p = some (.lst xs)) (q : R) : tyV K "list" (.ref p) H ∧ R := ⟨.inl ⟨rfl, _, .inl (.inl h)⟩, q⟩
/-! three names at once -/
def tPar3 (i j k : Nat) (ta : TA) : TS := fun D σ H => ta σ H fun vs H1 => ∃ v w z, vs = [v, w, z] ∧ D.nx (((σ.set i (some v)).set j (some w)).set k (some z)) H1
theorem ps_par3 {i j k : Nat} {x y z : Str} {ta : TA} {px py pz pt : Pos} {kt k2 pt2} (hc : X.calm = true) (hN : X.N.Nodup) (hi : X.N[i]? = some x) (hj : X.N[j]? = some y) (hk : X.N[k]? = some z)
    (hij : i ≠ j) (hik : i ≠ k) (hjk : j ≠ k) (hx : X.env.scope.names.lookup x = some .local) (hy : X.env.scope.names.lookup y = some .local) (hz : X.env.scope.names.lookup z = some .local)
    (ha : PA X [a, b, c] ta) (hw : swappedStores [.Tuple [.Name x px, .Name y py, .Name z pz] kt pt] (.Tuple [a, b, c] k2 pt2) X.env = pure (some [x, y, z]))
    (hs : swapsWithSole [.Tuple [.Name x px, .Name y py, .Name z pz] kt pt] (.Tuple [a, b, c] k2 pt2) pos.line X.env = pure false := by rfl) :
    PS X (.Assign [.Tuple [.Name x px, .Name y py, .Name z pz] kt pt] (.Tuple [a, b, c] k2 pt2) pos) (tPar3 i j k ta) := by
  refine ⟨fun pins s σ H D I h => ?_⟩
  rw [exec_Assign_arm]
  refine wpAny_bind (wpAny_standAt ?_)
  rw [hs]
  refine wpAny_bind (wpAny_pure ?_)
  rw [if_neg (by decide)]
  refine wpAny_bind (Tuple_ (thn (ha.run _ pins s σ H _ I h) ?_))
  intro us s1 hu
  obtain ⟨vs, H1, I1, r1, q1⟩ := hu
  obtain ⟨v, w, z', e1, q1⟩ := q1
  subst e1
  obtain ⟨u1, us1, rfl, rv, r2⟩ : ∃ u1 us1, us = u1 :: us1 ∧ RelV v u1 ∧ Vals [w, z'] us1 := by
    cases r1 with
    | cons p q => exact ⟨_, _, rfl, p, q⟩
  obtain ⟨u2, us2, rfl, rw', r3⟩ : ∃ u2 us2, us1 = u2 :: us2 ∧ RelV w u2 ∧ Vals [z'] us2 := by
    cases r2 with
    | cons p q => exact ⟨_, _, rfl, p, q⟩
  obtain ⟨u3, rfl, rz⟩ : ∃ u3, us2 = [u3] ∧ RelV z' u3 := by
    cases r3 with
    | cons p q =>
      cases q
      exact ⟨_, rfl, p⟩
  refine wpAny_newObj_type ?_ (by show 3 ≤ sizeLine; decide)
  have I2 : Inv X pins σ H1 { s1 with heap := s1.heap.push { cls := .type "tuple", data := .seq [u1, u2, u3].toArray } } :=
    I1.kept (t' := s1.toks) fun b o e => Heap.get?_push_of_some _ e
  rw [hw]
  refine wpAny_bind (wpAny_pure ?_)
  show wpAny (model X.prog X.w) X.A (do rule "assign.swapped-stores"; let items ← unpackItems (.ref s1.heap.objs.size) 3 none; assignInOrder [fun v => bindName X.env z v, fun v => bindName X.env y v, fun v => bindName X.env x v] items.reverse; pure Flow.next) _ _ _
  refine wpAny_bind (wpAny_rule (wpAny_bind (unpackItems_tuple (items := #[u1, u2, u3]) (I.ok.hd hc) (IsTup.new s1.heap _) fun h' hx' => ?_)))
  have I3 := I2.kept (h' := h') (t' := s1.toks) fun b o e => hx' b o (Nat.ne_of_lt (Heap.lt_size e)) e
  show wpAny _ _ (assignInOrder [fun v => bindName X.env z v, fun v => bindName X.env y v, fun v => bindName X.env x v] [u3, u2, u1] >>= fun _ => pure Flow.next) _ _ _
  refine wpAny_bind (assignInOrder_cons (wpAny_bindName (store_ok I3 hN hk (.inl hz) rz (fun s2 I4 => ?_) (.inr hz))))
  refine assignInOrder_cons (wpAny_bindName (store_ok I4 hN hj (.inl hy) rw' (fun s3 I5 => ?_) (.inr hy)))
  refine assignInOrder_cons (wpAny_bindName (store_ok I5 hN hi (.inl hx) rv (fun s4 I6 => assignInOrder_nil (wpAny_pure ?_)) (.inr hx)))
  rw [List.set_comm _ _ (Ne.symm hjk), List.set_comm _ _ (Ne.symm hik), List.set_comm _ _ (Ne.symm hij)] at I6
  exact ⟨_, H1, I6, q1⟩
theorem rd_par3 {σ : L2.St} {H : Hp} {D : Ends} {i j k : Nat} {t : TA} (q : t σ H fun vs H1 => ∃ v w z, vs = [v, w, z] ∧ D.nx (((σ.set i (some v)).set j (some w)).set k (some z)) H1) : tPar3 i j k t D σ H := q
end

/-! the same with the written part named: within a comprehension's block -/
section
variable {X : Cx} {K : PySem.W.Frag} (h : X.K = K)
include h
theorem kou_add : OpR X (binaryOp .Add) (uAdd K) := by subst h; exact ou_add
theorem kou_eq (hu : X.A.units + 64 < cLine) : OpR X (compareOp .Eq) (uEq K) := by subst h; exact ou_eq hu
theorem kou_ne (hu : X.A.units + 64 < cLine) : OpR X (compareOp .NotEq) (uNe K) := by subst h; exact ou_ne hu
theorem kou_in : OpR X (compareOp .In) (uIn K) := by subst h; exact ou_in
theorem kou_ni : OpR X (compareOp .NotIn) (uNi K) := by subst h; exact ou_ni
theorem kcu_len : CallR X (.builtin "len") (uLen K) := by subst h; exact cu_len
theorem kcu_isi : CallR X (.builtin "isinstance") (uIsi K) := by subst h; exact cu_isi
theorem kix_seq : IxR X (rIx K) := by subst h; exact ix_seq
theorem ksl_u : SlR X (uSl K) := by subst h; exact sl_u
theorem kpi_u {tg e : Expr} {te : TE} (he : PE X e te) : PI X tg e (iU K te) := by subst h; exact pi_u he
theorem kpe_andT {a b : Expr} {rest : List Expr} {pos : Pos} {ta tb : TE} (ha : PE X a ta) (hb : PE X (.BoolOp .And (b :: rest) pos) tb) : PE X (.BoolOp .And (a :: b :: rest) pos) (tAndT K ta tb) := by subst h; exact pe_andT ha hb
theorem kpe_orT {a b : Expr} {rest : List Expr} {pos : Pos} {ta tb : TE} (ha : PE X a ta) (hb : PE X (.BoolOp .Or (b :: rest) pos) tb) : PE X (.BoolOp .Or (a :: b :: rest) pos) (tOrT K ta tb) := by subst h; exact pe_orT ha hb
theorem kpe_notT {a : Expr} {pos : Pos} {ta : TE} (ha : PE X a ta) : PE X (.UnaryOp .Not a pos) (tNotT K ta) := by subst h; exact pe_notT ha
theorem kpt_u {a : Expr} {ta : TE} (ha : PE X a ta) (he : ∀ whole, isTrue a X.env whole = (do let v ← whole; standAt a.pos; holding [v] (truthy v))) : PT X a (uTru K ta) := by subst h; exact pt_u ha he
theorem kcr_all (hc : X.calm = true) : CallR X (.builtin "all") (rAll K) := by subst h; exact cr_all hc
theorem kcr_any (hc : X.calm = true) : CallR X (.builtin "any") (rAny K) := by subst h; exact cr_any hc
theorem kcr_sum (hc : X.calm = true) : CallR X (.builtin "sum") (rSum K) := by subst h; exact cr_sum hc
theorem kpg_tup {es : List Expr} {k : Nat} {pos : Pos} {t : TGs} {n : Nat} (hc : X.calm = true) (hp : PGs X es t)
    (hn : (assignEach es X.env).length = n := by rfl) (hst : (assignEach es X.env).findIdx? (·.1) = none := by rfl) : PG X (.Tuple es k pos) (gTup K n t) := by subst h; exact pg_tup hc hp hn hst
variable {o e : Expr} {es : List Expr} {to te : TE} {t : TA} {name : Str} {apos cpos : Pos} {T id : String}
  {r : V → List V → Hp → VK → Prop}
theorem kpe_bm0 (pa : PlainAttrs T) (slot : Slot T name id)
    (hty : typeOf (.builtin id) = pure (.type "method_descriptor"))
    (hm : MtR X id r) (ho : PE X o to)
    (b1 : attributeBase o name X.env (eval o X.env) = eval o X.env := by rfl)
    (b2 : (apos.endLine == cpos.line) = true := by rfl) :
    PE X (.Call (.Attribute o name apos) [] [] cpos) (tBM0 K T r to) := by
  subst h
  exact pe_bm0 pa slot hty hm ho b1 b2
theorem kpe_bm (pa : PlainAttrs T) (slot : Slot T name id)
    (hty : typeOf (.builtin id) = pure (.type "method_descriptor"))
    (hm : MtR X id r) (ho : PE X o to) (ha : PA X (e :: es) t)
    (b1 : attributeBase o name X.env (eval o X.env) = eval o X.env := by rfl)
    (b2 : ((backTo cpos (starEach (e :: es) X.env)).all (fun x => !x.1) &&
      (backToKw cpos (keywordEach [] X.env)).all (fun x => x.1.isSome) &&
      decide ((e :: es).length + ([] : List Keyword).length +
        (if ([] : List Keyword).isEmpty then 0 else 1) < 30)) = true := by rfl)
    (b3 : (apos.endLine == cpos.line) = true := by rfl)
    (b4 : starEach (e :: es) X.env = (false, eval e X.env) :: starEach es X.env := by rfl)
    (b5 : (backTo cpos (starEach es X.env)).any (·.1) = false := by rfl) :
    PE X (.Call (.Attribute o name apos) (e :: es) [] cpos) (tBM K T r to t) := by
  subst h
  exact pe_bm pa slot hty hm ho ha b1 b2 b3 b4 b5
theorem kpi_enum {p pos tpos : Pos} {elts : List Expr} {kk : Nat} (hg : Gl X "enumerate")
    (hm : X.mg "enumerate" = none) (ha : PA X [e] t)
    (hs : starEach [e] X.env = [(false, eval e X.env)] := by rfl) :
    PI X (.Tuple elts kk tpos) (.Call (.Name "enumerate" p) [e] [] pos) (iEnum K t) := by
  subst h
  exact pi_enum hg hm ha hs
theorem kpi_zip {e2 : Expr} {p pos tpos : Pos} {elts : List Expr} {kk : Nat} (hg : Gl X "zip")
    (hm : X.mg "zip" = none) (ha : PA X [e, e2] t)
    (hs : starEach [e, e2] X.env = (false, eval e X.env) :: starEach [e2] X.env := by rfl)
    (hpl : (backTo pos (starEach [e2] X.env)).any (·.1) = false := by rfl) :
    PI X (.Tuple elts kk tpos) (.Call (.Name "zip" p) [e, e2] [] pos) (iZip K t) := by
  subst h
  exact pi_zip hg hm ha hs hpl
def rJoin (K : PySem.W.Frag) : V → List V → Hp → VK → Prop := fun x xs H Q => ∃ a p, ∃ ys : List Str, x = .str a ∧ xs = [.ref p] ∧
  (SqL K H p (ys.map V.str) ∨ SqT K H p (ys.map V.str)) ∧
  (ys.map (·.length)).sum + ys.length * a.length ≤ 16777216 ∧ Q (.str (Txt.join a ys)) H
theorem kpe_join (ho : PE X o to) (he : PE X e te)
    (hs : starEach [e] X.env = [(false, eval e X.env)] := by rfl)
    (hb : attributeBase o "join" X.env (eval o X.env) = eval o X.env := by rfl)
    (hl : (apos.endLine == cpos.line) = true := by rfl) :
    PE X (.Call (.Attribute o "join" apos) [e] [] cpos) (tM1 (rJoin K) to te) := by
  subst h
  exact pe_join ho he hs hb hl
end
end Gd
/-! Sets of texts: made of a list, counted, sorted; texts sorted at any length. -/
namespace Gd
open PySem PySem.Spec PyProof.Rows L2

def keyT (e : Int × Value) : Str := match e.2 with
  | .str x _ => x
  | _ => Str.empty
def GoodT (w : World) (e : Int × Value) : Prop := ∃ x tk, e.2 = Value.str x tk ∧ e.1 = hashStr w x
/-- the set of texts at a: ks its members, in some order, each once -/
def SetT (w : World) (h : Heap) (a : Addr) (ks : List Str) : Prop :=
  ∃ o es ep t, h.get? a = some o ∧ o.ExactSet ∧ o.data = .set es ep t ∧ (∀ e ∈ es.toList, GoodT w e) ∧
    (es.toList.map keyT).Perm ks ∧ ks.Nodup ∧ es.size < scanBound ∧ t.fits es.size = true ∧
    Ris t.place.toList ∧ (w.params.followText "set-order" = true ∨ t.led = true)
def addT (ks : List Str) (x : Str) : List Str := if x ∈ ks then ks else ks ++ [x]
def dedT (xs : List Str) : List Str := xs.foldl addT []
theorem addT_mem {ks : List Str} {x y : Str} : y ∈ addT ks x ↔ y ∈ ks ∨ y = x := by
  unfold addT
  split
  · exact ⟨.inl, fun h => h.elim id fun e => by rw [e]; assumption⟩
  · simp
theorem foldT_mem : ∀ (xs ks : List Str) (y : Str), y ∈ xs.foldl addT ks ↔ y ∈ ks ∨ y ∈ xs
  | [], ks, y => by simp
  | x :: xs, ks, y => by
    rw [List.foldl_cons, foldT_mem xs, addT_mem, List.mem_cons, or_assoc]
theorem dedT_mem {xs : List Str} {y : Str} : y ∈ dedT xs ↔ y ∈ xs := by
  unfold dedT
  rw [foldT_mem]
  simp
theorem addT_nodup {ks : List Str} {x : Str} (h : ks.Nodup) : (addT ks x).Nodup := by
  unfold addT
  split
  · exact h
  · rename_i n
    rw [List.nodup_append]
    refine ⟨h, by simp, fun a ha b hb e => ?_⟩
    rw [List.mem_singleton.mp hb] at e
    rw [e] at ha
    exact n ha
theorem foldT_nodup : ∀ (xs ks : List Str), ks.Nodup → (xs.foldl addT ks).Nodup
  | [], _, h => h
  | x :: xs, ks, h => foldT_nodup xs _ (addT_nodup h)
theorem dedT_nodup (xs : List Str) : (dedT xs).Nodup := foldT_nodup xs [] .nil
theorem addT_len (ks : List Str) (x : Str) : (addT ks x).length ≤ ks.length + 1 := by
  unfold addT
  split
  · omega
  · simp
theorem foldT_len : ∀ (xs ks : List Str), (xs.foldl addT ks).length ≤ ks.length + xs.length
  | [], ks => by simp
  | x :: xs, ks => by
    have h1 := foldT_len xs (addT ks x)
    have h2 := addT_len ks x
    rw [List.foldl_cons, List.length_cons]
    omega
theorem dedT_len (xs : List Str) : (dedT xs).length ≤ xs.length := by
  have := foldT_len xs []
  simpa [dedT] using this
theorem foldT_id : ∀ (xs ks : List Str), (ks ++ xs).Nodup → xs.foldl addT ks = ks ++ xs
  | [], ks, _ => by simp
  | x :: xs, ks, h => by
    have hx : x ∉ ks := fun z => by
      rw [List.nodup_append] at h
      exact h.2.2 x z x (by simp) rfl
    rw [List.foldl_cons]
    unfold addT
    rw [if_neg hx]
    have e : ks ++ [x] ++ xs = ks ++ x :: xs := by simp
    have := foldT_id xs (ks ++ [x]) (by rw [e]; exact h)
    unfold addT at this
    rw [this, e]
theorem dedT_id {xs : List Str} (h : xs.Nodup) : dedT xs = xs := by
  have := foldT_id xs [] (by simpa using h)
  simpa [dedT] using this

section
variable {P : Program} {w : World} {A : Around} {E : Value → Shared → Prop} {s : Shared} {h h' : Heap} {a : Addr} {ks : List Str}
theorem SetT.at (R : SetT w h a ks) (k : ∀ o, h.get? a = some o → h'.get? a = some o) : SetT w h' a ks := by
  obtain ⟨o, es, ep, t, ho, r⟩ := R
  exact ⟨o, es, ep, t, k o ho, r⟩
theorem goodT_elems {l : List (Int × Value)} (g : ∀ e ∈ l, GoodT w e) : ElemsOf (PySem.strKind P w) l := fun e he => by
  obtain ⟨k, tk, h1, h2⟩ := g e he
  exact ⟨⟨k, by rw [h1]; exact PySem.strKind_is P w k tk, h2⟩, by rw [h1] <;> rfl⟩
theorem goodT_is {e : Int × Value} (g : GoodT w e) (k : Str) : (PySem.strKind P w).is k e.2 = true ↔ keyT e = k := by
  obtain ⟨k0, tk, h1, _⟩ := g
  unfold keyT
  rw [h1]
  first
    | (show ((k0 == k) = true) ↔ k0 = k; exact beq_iff_eq)
    | (show (decide (k0 = k) = true) ↔ k0 = k; exact decide_eq_true_iff)
    | (show (decide (k = k0) = true) ↔ k0 = k; exact decide_eq_true_iff.trans eq_comm)
theorem goodT_mem {l : List (Int × Value)} (g : ∀ e ∈ l, GoodT w e) (k : Str) : k ∈ l.map keyT ↔ ∃ e ∈ l, (PySem.strKind P w).is k e.2 = true := by
  rw [List.mem_map]
  constructor
  · rintro ⟨e, he, q⟩
    exact ⟨e, he, (goodT_is (g e he) k).2 q⟩
  · rintro ⟨e, he, q⟩
    exact ⟨e, he, (goodT_is (g e he) k).1 q⟩

theorem setT_tail {g : Bool → Sem Unit} (hg : ∀ (b : Bool) (s₁ : Shared) (Q' : Unit → Shared → Prop), Q' () s₁ → wpAny (model P w) A (g b) Q' E s₁)
    {o : Obj} {es : Array (Int × Value)} {ep : Nat} {t : SetTable} (ho : s.heap.get? a = some o) (hex : o.ExactSet) (hd : o.data = .set es ep t)
    {es1 : Array (Int × Value)} {t2 : SetTable} {ks' : List Str} (g1 : ∀ e ∈ es1.toList, GoodT w e) (pm1 : (es1.toList.map keyT).Perm ks') (nd1 : ks'.Nodup)
    (hb1 : es1.size < scanBound) (hf2 : t2.fits es1.size = true) (hr : Ris t2.place.toList)
    (hl : w.params.followText "set-order" = true ∨ t2.led = true) {wasDummy : Bool} {R : Option Bool → Shared → Prop}
    (hR : ∀ h', Heap.SameBut a s.heap h' → SetT w h' a ks' → R (some true) { s with heap := h' }) :
    wpAny (model P w) A (do
        storeSet a es1 t2
        if (!wasDummy && t2.tooFull) = true then do
          g (relayAll t2 es1 (SetTable.grown es1.size)).2.2
          storeSet a (relayAll t2 es1 (SetTable.grown es1.size)).1 (relayAll t2 es1 (SetTable.grown es1.size)).2.1
          pure (some true)
        else pure (some true)) R E s := by
  refine wpAny_bind (wpAny_storeSet_of ho hd ?_ (fits_of_scanBound hb1))
  have ho1 := store_at (es' := es1) (t' := t2) ho hd
  have sb1 := Heap.SameBut.update s.heap a (Obj.putSet es1 t2)
  split
  · have pm := relayAll_perm t2 es1 (SetTable.grown es1.size)
    have hf3 := relayAll_fits t2 es1 (SetTable.grown es1.size)
    have hr3 := relayAll_ris t2 es1 (SetTable.grown es1.size)
    have hl3 := relayAll_led t2 es1 (SetTable.grown es1.size)
    generalize relayAll t2 es1 (SetTable.grown es1.size) = Z at pm hf3 hr3 hl3 ⊢
    obtain ⟨es2, t3, gave⟩ := Z
    dsimp only at pm hf3 hr3 hl3 ⊢
    have hsz : es2.size = es1.size := by rw [← Array.length_toList, pm.length_eq, Array.length_toList]
    refine wpAny_bind (hg _ _ _ ?_)
    refine wpAny_bind (wpAny_storeSet_of ho1 rfl ?_ (fits_of_scanBound (by rw [hsz]; exact hb1)))
    have ho2 := store_at (es' := es2) (t' := t3) ho1 rfl
    refine wpAny_pure (hR _ (sb1.trans (Heap.SameBut.update _ a _)) ?_)
    exact ⟨_, es2, _, t3, ho2, hex, rfl, fun e he => g1 e (pm.mem_iff.mp he), (pm.map keyT).trans pm1, nd1,
      by rw [hsz]; exact hb1, hf3, hr3, hl.imp id fun z => by rw [hl3]; exact z⟩
  · exact wpAny_pure (hR _ sb1 ⟨_, es1, _, t2, ho1, hex, rfl, g1, pm1, nd1, hb1, hf2, hr, hl⟩)

theorem setT_add {k : Str} {tk : Tok} {Q : Bool → Shared → Prop} (R : SetT w s.heap a ks) (room : ks.length + 1 < scanBound)
    (hQ : ∀ b h', Heap.SameBut a s.heap h' → SetT w h' a (addT ks k) → Q b { s with heap := h' }) :
    wpAny (model P w) A (setAddHashed a (.str k tk) ((PySem.strKind P w).hash k)) Q E s := by
  obtain ⟨o, es, ep, t, ho, hex, hd, g, pk0, nd, hb, hf, hr, hl⟩ := R
  have hn : es.size = ks.length := by rw [← pk0.length_eq, List.length_map, Array.length_toList]
  have hkey : (PySem.strKind P w).is k (.str k tk) = true := PySem.strKind_is P w k tk
  have hsc : (Value.str k tk).scannable = true := rfl
  have hel : ElemsOf (PySem.strKind P w) es.toList := goodT_elems g
  unfold setAddHashed setAddHashedIn
  refine wpAny_holding (wpAny_bind (wpAny_setState_of ho hd hf ?_))
  dsimp only
  rw [byScan_of hsc hb hel]
  simp only [↓reduceIte]
  unfold setAddByScan
  refine wpAny_bind ?_
  refine wpAny_bind (wpAny_rule ?_)
  refine wpAny_bind (wpAny_setScan_of hkey ho hd hf hel ?_)
  cases hfi : List.findIdx? (fun e => (PySem.strKind P w).is k e.2) es.toList with
  | some j =>
    dsimp only
    obtain ⟨hj, pj, _⟩ := List.findIdx?_eq_some_iff_getElem.mp hfi
    have hk : k ∈ ks := pk0.mem_iff.mp ((goodT_mem (P := P) g k).2 ⟨es.toList[j], List.getElem_mem hj, pj⟩)
    have e : addT ks k = ks := if_pos hk
    refine wpAny_pure (wpAny_pure ?_)
    refine hQ _ s.heap (Heap.SameBut.refl a s.heap) ?_
    rw [e]
    exact ⟨o, es, ep, t, ho, hex, hd, g, pk0, nd, hb, hf, hr, hl⟩
  | none =>
    dsimp only
    have hnk : k ∉ es.toList.map keyT := fun z => by
      obtain ⟨e, he, q⟩ := (goodT_mem (P := P) g k).1 z
      have c := List.findIdx?_eq_none_iff.mp hfi e he
      rw [q] at c
      cases c
    have hnk2 : k ∉ ks := fun z => hnk (pk0.mem_iff.mpr z)
    have ea : addT ks k = ks ++ [k] := if_neg hnk2
    have hgw : ∀ (b : Bool) {s₁ : Shared} {Q' : Unit → Shared → Prop}, Q' () s₁ →
        wpAny (model P w) A (match b with | true => rule "set.scan.the-table-gave-way" | false => pure ()) Q' E s₁ :=
      fun b s₁ Q' q => by cases b <;> first | exact wpAny_pure q | exact wpAny_rule q
    have pm := layNew_perm t es ((PySem.strKind P w).hash k) (.str k tk)
    have hf1 := layNew_fits t es ((PySem.strKind P w).hash k) (.str k tk)
    have hr1 := layNew_ris t es ((PySem.strKind P w).hash k) (.str k tk) hr
    have hl1 := layNew_led t es ((PySem.strKind P w).hash k) (.str k tk)
    generalize layNew t es ((PySem.strKind P w).hash k) (.str k tk) = Z at pm hf1 hr1 hl1 ⊢
    obtain ⟨es1, t1, wasDummy, gave⟩ := Z
    dsimp only at pm hf1 hr1 hl1 ⊢
    rw [Array.toList_push] at pm
    have g1 : ∀ e ∈ es1.toList, GoodT w e := fun e he => by
      rcases List.mem_append.mp (pm.mem_iff.mp he) with z | z
      · exact g e z
      · rw [List.mem_singleton.mp z]
        exact ⟨k, tk, rfl, rfl⟩
    have pk : (es1.toList.map keyT).Perm (addT ks k) := by
      rw [ea]
      refine (pm.map keyT).trans ?_
      rw [List.map_append]
      exact pk0.append (List.Perm.refl _)
    have nd1 : (addT ks k).Nodup := addT_nodup nd
    have hsz : es1.size = ks.length + 1 := by rw [← Array.length_toList, pm.length_eq, List.length_append, Array.length_toList, hn]; rfl
    have hb1 : es1.size < scanBound := by rw [hsz]; exact room
    have hled : w.params.followText "set-order" = true ∨ t1.led = true := hl.imp id fun z => by rw [hl1]; exact z
    have fin : ∀ h', Heap.SameBut a s.heap h' → SetT w h' a (addT ks k) → Q true { s with heap := h' } := fun h' sb r => hQ true h' sb r
    refine wpAny_bind (hgw _ ?_)
    split
    · refine wpAny_bind ?_
      rw [hashByValue_scannable 8 hsc]
      refine wpAny_pure ?_
      refine setT_tail ?_ ho hex hd g1 pk nd1 hb1 ?_ ?_ ?_ ?_
      · intro b s₁ Q' q
        cases b <;> first | exact wpAny_pure q | exact wpAny_rule q
      · first | (split <;> first | exact hf1 | exact SetTable.fits_plain_off hf1) | exact hf1
      · first | (split <;> exact hr1) | exact hr1
      · first | (split <;> exact hled) | exact hled
      · intro h' sb r
        dsimp only
        exact wpAny_pure (fin h' sb r)
    · refine wpAny_bind (wpAny_pure ?_)
      simp only [↓reduceIte]
      refine setT_tail ?_ ho hex hd g1 pk nd1 hb1 hf1 hr1 hled ?_
      · intro b s₁ Q' q
        cases b <;> first | exact wpAny_pure q | exact wpAny_rule q
      · intro h' sb r
        dsimp only
        exact wpAny_pure (fin h' sb r)
end

/-! ### set(list of texts) -/
section
variable {prog : Program} {w : World} {A : Around} {R : Result → Shared → Prop} {I : Addr} {fp wr : List Addr}
  {G : Array GenState → Array GenState → Prop} {n : Nat} {P : Nat → Value → Prop} {St : Nat → Shared → Prop}
theorem loopT (W : WalksS prog w A.in1 I fp wr G n P St) (S : Addr) (hSf : S ∉ fp) (xs : List Str) (hsz : xs.length = n) (hn1 : n < 4000)
    (hval : ∀ i v, P i v → ∃ t, v = .str (xs.getD i Str.empty) t) :
    ∀ (k i : Nat) (s : Shared), n - i = k → i ≤ n → St i s → SetT w s.heap S (dedT (xs.take i)) →
      (∀ s', Moved (S :: wr) G s s' → SetT w s'.heap S (dedT xs) → R (.ok (.ret .none)) s') →
      codeAny (model prog w) A (.builtin "set.update.loop" ⟨[.ref S, .ref I], []⟩) R s := by
  have hSw : S ∉ wr := fun h => hSf (W.sub _ h)
  have hsub : ∀ b ∈ wr, b ∈ S :: wr := fun b hb => List.mem_cons_of_mem _ hb
  intro k
  induction k with
  | zero =>
    intro i s hk hi hst hS hR
    have hin : i = n := by omega
    subst hin
    rw [List.take_of_length_le (by omega)] at hS
    refine codeAny_builtin PyProof.Rows.F.entry_set_update_loop ?_
    rw [Around.under_plainId PyProof.Rows.F.plain_set_update_loop _]
    show wpAny _ A.in1 (pyNext (.ref I) >>= _) _ _ s
    refine wpAny_bind (W.done s _ _ hst fun s' hm => ?_)
    show wpAny _ A.in1 (ret Value.none) _ _ s'
    exact wpAny_pure (hR s' (hm.mono hsub) (hS.at fun o ho => hm.heap S _ hSw ho))
  | succ k ih =>
    intro i s hk hi hst hS hR
    have hlt : i < n := by omega
    refine codeAny_builtin PyProof.Rows.F.entry_set_update_loop ?_
    rw [Around.under_plainId PyProof.Rows.F.plain_set_update_loop _]
    show wpAny _ A.in1 (pyNext (.ref I) >>= _) _ _ s
    refine wpAny_bind (W.item i s _ _ hlt hst fun v s' hP hst' hm => ?_)
    obtain ⟨t, rfl⟩ := hval i v hP
    have hS' : SetT w s'.heap S (dedT (xs.take i)) := hS.at fun o ho => hm.heap S _ hSw ho
    show wpAny _ A.in1 (holding [Value.str (xs.getD i Str.empty) t] (setAdd S (.str (xs.getD i Str.empty) t)) >>= _) _ _ s'
    refine wpAny_bind (wpAny_holding ?_)
    unfold setAdd
    refine wpAny_holding ?_
    refine wpAny_bind ((PySem.strKind prog w).pyHash (k := xs.getD i Str.empty) (PySem.strKind_is _ _ _ _) ?_)
    have room : (dedT (xs.take i)).length + 1 < scanBound := by
      have := dedT_len (xs.take i)
      rw [List.length_take] at this
      unfold scanBound
      omega
    refine setT_add (P := prog) (s := { s' with toks := s'.toks + 1 }) hS' room fun b h' hsb hS2 => ?_
    have ed : addT (dedT (xs.take i)) (xs.getD i Str.empty) = dedT (xs.take (i + 1)) := by
      have hi' : i < xs.length := by omega
      rw [List.take_add_one, List.getElem?_eq_getElem hi', Option.toList_some]
      unfold dedT
      rw [List.foldl_append, List.foldl_cons, List.foldl_nil]
      simp [hi']
    rw [ed] at hS2
    refine wpAny_pure ⟨plainId_quiet PyProof.Rows.F.plain_set_update_loop _, ih (i + 1) _ (by omega) hlt (W.frame _ s' _ _ hst' (Nat.le_succ _) fun b hb o e => ?_) hS2 fun s'' hm'' hS'' => ?_⟩
    · rw [hsb.2 b (fun h : b = S => hSf (by rw [← h]; exact hb))]
      exact e
    · refine hR s'' (Moved.trans W.gtrans ((hm.mono hsub).then_heap (Nat.le_succ _) fun b o hb e => ?_) hm'') hS''
      rw [hsb.2 b (fun h : b = S => hb (by rw [h]; exact List.mem_cons_self))]
      exact e
end

section
variable {prog : Program} {w : World} {A : Around} {E : Value → Shared → Prop} {s : Shared}
/-- a set as it is born -/
abbrev bornS (w : World) : Obj := { cls := .type "set", dict := none, data := .set #[] 0 (.fresh 0 0 (!w.params.followText "set-order")) }
theorem setT_born {h : Heap} (w : World) : SetT w (h.push (bornS w)) h.objs.size [] := by
  refine ⟨_, #[], 0, _, Heap.get?_push_size _ rfl, ⟨rfl, rfl, rfl⟩, rfl, fun e he => by simp at he, by simp, .nil, by decide, by rfl, List.Pairwise.nil, ?_⟩
  show _ ∨ (!w.params.followText "set-order") = true
  cases w.params.followText "set-order"
  · exact .inr rfl
  · exact .inl rfl
theorem code_setT (a : Value) {Q₁ : Value → Shared → Prop} (h : Q₁ (.ref s.heap.objs.size) { s with heap := s.heap.push (bornS w) }) :
    codeAny (model prog w) A (.call (.builtin "set.__new__") ⟨[.type "set", a], []⟩) (wants Q₁ E) s := by
  refine codeAny_of_tree ?_
  show wpAny _ A.in1 (do
    checkBuiltinCall "set.__new__" ⟨[.type "set", a], []⟩
    again (.builtin "set.__new__" ⟨[.type "set", a], []⟩)) _ _ s
  refine wpAny_bind (wpAny_of_eq (show checkBuiltinCall "set.__new__" ⟨[.type "set", a], []⟩ = pure () by kernel_rfl) (wpAny_pure ?_))
  refine ⟨plainId_quiet PySem.F.plain_set_new _, codeAny_builtin PySem.F.entry_set_new ?_⟩
  rw [Around.under_plainId PySem.F.plain_set_new _]
  unfold Builtin.«set.__new__» Builtin.Frozenset.newClass
  have hsub := sub_set_self
  obtain ⟨hp, g, d, tk, os⟩ := s
  dsimp only
  wp_walk
  refine wpAny_askSetting (wpAny_pure ?_)
  dsimp only
  simp only [newObj]
  exact wpAny_bind (wpAny_alloc (wpAny_pure (wpAny_pure h)))

theorem strs_nth : ∀ {vs : List Value} {xs : List Str}, PyProof.Rows.StrsAre vs xs → ∀ (i : Nat) (v : Value), vs[i]? = some v → ∃ t, v = .str (xs.getD i Str.empty) t
  | _, _, .nil, i, v, h => by simp at h
  | _, _, .cons n t hr, 0, v, h => by
    simp at h
    exact ⟨t, by rw [← h]; rfl⟩
  | _, _, .cons n t hr, i + 1, v, h => by
    obtain ⟨t', e⟩ := strs_nth hr i v (by simpa using h)
    exact ⟨t', by rw [e]; rfl⟩
set_option maxHeartbeats 3200000 in
theorem call_setT {l : Addr} {items : Array Value} {xs : List Str} {Q : Value → Shared → Prop} (hh : A.handled = none)
    (hl : s.heap.IsList l items) (hi : PyProof.Rows.StrsAre items.toList xs) (hn1 : xs.length < 4000)
    (h : ∀ (h' : Heap) (tk : Nat), SetT w h' s.heap.objs.size (dedT xs) →
      (∀ b o, b < s.heap.objs.size → s.heap.get? b = some o → h'.get? b = some o) → Q (.ref s.heap.objs.size) { s with heap := h', toks := tk }) :
    wpAny (model prog w) A (call (.type "set") [.ref l]) Q E s := by
  obtain ⟨c, tl, hmro⟩ := PySem.F.called_set.mro
  have hmade := PySem.F.called_set.made
  have hsub := PySem.F.called_set.sub
  refine wpAny_call (codeAny_of_tree ?_)
  show wpAny _ _ (callAny (.type "set") _) _ _ _
  refine wpAny_pure ⟨Code.quiet_builtin _ (by decide +kernel), codeAny_builtin PySem.F.entry_type_call ?_⟩
  rw [Around.under_plain (weight_type_call_type "set" [.ref l] []) rfl]
  have h1 := PySem.F.called_set.notType
  have h2 := PySem.F.called_set.canCreate
  have hct := PySem.F.typeCall_set_1 (.ref l)
  repeat (any_goals (first | assumption | wp_step))
  refine codeAny_mono (code_setT (.ref l) (E := E) (Q₁ := fun obj s₁ => obj = .ref s.heap.objs.size ∧
    s₁ = { s with heap := s.heap.push (bornS w) }) ⟨rfl, rfl⟩) fun r s₁ hr => ?_
  cases r with
  | error e => exact hr
  | ok fl =>
    cases fl with
    | ret obj =>
      obtain ⟨rfl, rfl⟩ := hr
      have hS : (s.heap.push (bornS w)).get? s.heap.objs.size = some (bornS w) := Heap.get?_push_size _ rfl
      have hT : Shared.TypeIs { s with heap := s.heap.push (bornS w) } (.ref s.heap.objs.size) "set" := ⟨_, hS, rfl⟩
      have hli := PySem.F.called_set.init.lookup
      have hbi := PySem.F.called_set.init.bind (.ref s.heap.objs.size)
      repeat (any_goals (first | assumption | wp_step))
      refine codeAny_mono (codeAny_call_builtin (R := wants (fun r s₂ => r = .none ∧ ∃ h' tk, s₂ = { s with heap := h', toks := tk } ∧
        SetT w h' s.heap.objs.size (dedT xs) ∧ (∀ b o, b < s.heap.objs.size → s.heap.get? b = some o → h'.get? b = some o)) E)
        PySem.F.called_set.init.plain PySem.F.entry_set_init (check_set_init_1 hT ?_)) fun r₂ s₂ hr₂ => ?_
      · obtain ⟨ol, hol, hcl, nl, hdl⟩ := hl
        obtain ⟨ocls, odict, odata, oslots⟩ := ol
        simp only at hcl hdl
        subst hcl
        subst hdl
        have hol' : (s.heap.push (bornS w)).get? l = some { cls := .type "list", dict := odict, data := .seq items nl, slots := oslots } := Heap.get?_push_of_some _ hol
        have hsls := PySem.F.sub_list_set
        have hslf := PySem.F.sub_list_frozenset
        have hne : (Value.type "list" == Value.type "dict") = false := by decide
        have hl1 : (s.heap.push (bornS w)).IsList l items := ⟨_, hol', rfl, nl, rfl⟩
        unfold Builtin.«set.__init__» noKeywords Builtin.Frozenset.updateFrom
        generalize hPI : pyIter = PI
        wp_walk
        subst hPI
        refine wpAny_pyIter_list hl1 (wpAny_bind (wpAny_runValue ?_))
        have hlS : l < s.heap.objs.size := Heap.lt_size hol
        have hh3 : A.in1.in1.in1.handled = none := by simp [hh]
        have hneI : l ≠ (s.heap.push (bornS w)).objs.size := by
          rw [Heap.size_push]
          exact Nat.ne_of_lt (Nat.lt_succ_of_lt hlS)
        have hSf : s.heap.objs.size ∉ [(s.heap.push (bornS w)).objs.size, l] := by
          rw [Heap.size_push]
          simp only [List.mem_cons, List.mem_singleton, List.not_mem_nil, or_false, not_or]
          exact ⟨Nat.ne_of_lt (Nat.lt_succ_self _), Nat.ne_of_gt hlS⟩
        have hsz : xs.length = items.size := by
          rw [← StrsAre.len_eq hi, Array.length_toList]
        have hval : ∀ (i : Nat) (v : Value), items[i]? = some v → ∃ t, v = .str (xs.getD i Str.empty) t :=
          fun i v hv => strs_nth hi i v (by rw [Array.getElem?_toList]; exact hv)
        refine loopT ((Walks.list hh3 _ l hneI items).toS) s.heap.objs.size hSf xs hsz (by rw [← hsz]; exact hn1) hval
          (items.size - 0) 0 _ (by omega) (Nat.zero_le _) ⟨⟨_, Heap.get?_push_size _ rfl, rfl, rfl⟩, (hl1.push _)⟩ ?hS0 ?hR
        case hS0 =>
          exact (setT_born w).at fun o ho => Heap.get?_push_of_some _ ho
        case hR =>
          intro s' hm hS'
          obtain ⟨h', g', d', tk', os'⟩ := s'
          obtain rfl : g' = s.gens := hm.gens
          obtain rfl : d' = s.drawn := hm.drawn
          obtain rfl : os' = s.os := hm.os
          show wpAny _ _ _ _ _ _
          refine wpAny_pure ?_
          show wpAny _ _ (ret Value.none) _ _ _
          refine wpAny_pure ⟨rfl, h', tk', rfl, hS', fun b o hb e => ?_⟩
          refine hm.heap b o ?_ (Heap.get?_push_of_some _ (Heap.get?_push_of_some _ e))
          simp only [List.mem_cons, List.mem_singleton, List.not_mem_nil, or_false, not_or]
          refine ⟨Nat.ne_of_lt hb, ?_⟩
          rw [Heap.size_push]
          exact Nat.ne_of_lt (Nat.lt_succ_of_lt hb)
      · cases r₂ with
        | error e => exact hr₂
        | ok fl₂ =>
          cases fl₂ with
          | ret r =>
            obtain ⟨rfl, h', tk, rfl, hS', hk'⟩ := hr₂
            repeat (any_goals (first | assumption | wp_step))
            exact h _ _ hS' hk'
          | _ => exact hr₂.elim
    | _ => exact hr.elim
end

/-! ### sorted -/
section
variable {P : Program} {w : World} {A : Around} {E : Value → Shared → Prop} {s : Shared} {a : Addr} {ks : List Str}
def rawT : Value → Str
  | .str x _ => x
  | _ => Str.empty
theorem strs_of : ∀ (l : List Value), (∀ v ∈ l, ∃ k tk, v = Value.str k tk) → PyProof.Rows.StrsAre l (l.map rawT)
  | [], _ => .nil
  | v :: l, h => by
    obtain ⟨k, tk, rfl⟩ := h v List.mem_cons_self
    exact .cons k tk (strs_of l fun u hu => h u (List.mem_cons_of_mem _ hu))
theorem sorted_setT {Q : Value → Shared → Prop} (R : SetT w s.heap a ks) (hh : A.handled = none)
    (hQ : ∀ s' p (out : Array Value) (c : Nat) (ys : List Str), (∀ b o, s.heap.get? b = some o → s'.heap.get? b = some o) → s'.gens = s.gens → s'.os = s.os →
      s.heap.objs.size ≤ p → s'.heap.get? p = some (seqObj "list" out c) → PyProof.Rows.StrsAre out.toList ys → ys.Perm ks → sortedS ys = true → Q (.ref p) s') :
    wpAny (model P w) A (call (.builtin "sorted") [.ref a]) Q E s := by
  obtain ⟨o, es, ep, t, ho, hex, hd, g, pk0, nd, hb, hf, hr, hl⟩ := R
  refine Calls.call_function_entry kind_sorted plain_sorted entry_sorted (args_sorted1 _) ?_
  unfold Builtin.«sorted»
  refine wpAny_bind (m := checkCount "sorted" 1 1 _) (wpAny_pure ?_)
  refine wpAny_bind (collect_set (A := A.in1) hh ⟨o, ho, hex.1, hd⟩ hf hb hr hl fun s1 vs k1 hz g1 o1 pm => ?_)
  have hvl : vs.length < scanBound := by
    rw [pm.length_eq, List.length_map, Array.length_toList]
    exact hb
  have hvz : vs.length ≤ sizeLine := fits_of_scanBound hvl
  have hI : PyProof.Rows.StrsAre vs (vs.map rawT) := strs_of vs fun v hv => by
    obtain ⟨e, he, q⟩ := List.mem_map.mp (pm.mem_iff.mp hv)
    obtain ⟨k, tk, h1, _⟩ := g e he
    exact ⟨k, tk, by rw [← q]; exact h1⟩
  have pk : (vs.map rawT).Perm ks := by
    have q := pm.map rawT
    rw [List.map_map] at q
    exact q.trans pk0
  refine wpAny_bind (wpAny_newList ?_ hvz)
  have hoL : (s1.heap.push (seqObj "list" vs.toArray 0)).get? s1.heap.objs.size = some (seqObj "list" vs.toArray 0) := Heap.get?_push_size _ rfl
  refine wpAny_bind (wpAny_holding (wpAny_call_entry slot_list_sort ⟨_, hoL, rfl⟩ entry_list_sort
    (list_sort_treeKAny strKind_oneLt hoL hI.keysOf (fun v₁ v₂ rest e => keyKind_strs (by rw [← e]; exact hI)) hvz fun st' hp hs => ⟨_, rfl, ?_⟩) (args_list_sort _)))
  obtain ⟨ys, h1, h2, h3⟩ := sorted_out_str hI hp hs
  obtain ⟨c, hc⟩ := sortedHeap_at (vs := vs) (out := (arrOf st').map (·.2)) hoL
  refine wpAny_pure ⟨_, rfl, hQ _ s1.heap.objs.size _ c ys (fun b u e => ?_) g1 o1 hz hc h1 (h2.trans pk) h3⟩
  have q := k1 b u e
  have hlt := Heap.lt_size q
  show (sortedHeap (s1.heap.push (seqObj "list" vs.toArray 0)) s1.heap.objs.size vs _).get? b = some u
  rw [sortedHeap_old (Nat.ne_of_lt hlt) (by rw [size_push']; exact Nat.lt_succ_of_lt hlt)]
  exact Heap.get?_push_of_some _ q
end

/-! ### by values -/
def SetTO (w : World) (a : Addr) (ks : List Str) : HO := .ext fun h => SetT w h a ks
section
variable {X : Cx} {pins : List (Addr × Obj)} {σ : L2.St} {H : Hp} {s : Shared} {a : Addr} {ks : List Str}
theorem setTO_new {P : Program} {w : World} {H : Hp} {h : Heap} (R : SetT w h a ks) : ObjOk P w H h a (SetTO w a ks) :=
  ⟨R, by obtain ⟨o, es, ep, t, ho, _⟩ := R; exact ⟨o, ho⟩, fun _ _ r k => SetT.at r k⟩
theorem setTO_get (I : Inv X pins σ H s) (ha : H a = some (SetTO X.w a ks)) : SetT X.w s.heap a ks := (I.hok a _ ha).1
/-- set(list of texts) -/
def uSet (K : PySem.W.Frag) (w : World) : List V → Hp → VK → Prop := fun vs H Q => ∃ (a : Addr) (xs : List Str), vs = [.ref a] ∧ SqL K H a (xs.map V.str) ∧ xs.length < 4000 ∧
  ∀ p, H p = none → Q (.ref p) (upd H p (SetTO w p (dedT xs)))
theorem cu_set (hc : X.calm = true) : CallR X (.type "set") (uSet X.K X.w) := by
  intro pins s σ H vs us Q I r h
  obtain ⟨a, xs, rfl, hS, hz, q⟩ := h
  obtain ⟨its, rv, pl, _⟩ := I.list hS
  rw [Vals.ref1 r]
  refine call_setT (w := X.w) (I.ok.hd hc) pl.isList (by simpa using Vals.strs rv) hz fun h' tk hS' hk => ?_
  have hn : H s.heap.objs.size = none := I.hok.fresh (Nat.le_refl _)
  refine ⟨.ref s.heap.objs.size, _, I.laid (t' := tk) (fun b o e => hk b o (Heap.lt_size e) e) (Nat.le_refl _) (setTO_new hS'), rfl, q _ hn⟩
/-- sorted(set of texts), sorted(list of texts) -/
def uSorted (K : PySem.W.Frag) (w : World) : List V → Hp → VK → Prop := fun vs H Q => ∃ (a : Addr) (xs : List Str), vs = [.ref a] ∧
  (H a = some (SetTO w a xs) ∨ (SqL K H a (xs.map V.str) ∧ xs.length ≤ 100000)) ∧
  ∀ p ys, H p = none → ys.Perm xs → sortedS ys = true → Q (.ref p) (upd H p (.lst (ys.map V.str)))
theorem cu_sorted (hc : X.calm = true) : CallR X (.builtin "sorted") (uSorted X.K X.w) := by
  intro pins s σ H vs us Q I r h
  obtain ⟨a, xs, rfl, hS, q⟩ := h
  rw [Vals.ref1 r]
  rcases hS with hS | ⟨hS, hz⟩
  · have R := setTO_get I hS
    have hlen : xs.length ≤ sizeLine := by
      obtain ⟨o, es, ep, t, ho, hex, hd, g, pk0, nd, hb, _⟩ := R
      rw [← pk0.length_eq, List.length_map, Array.length_toList]
      exact fits_of_scanBound hb
    refine sorted_setT R (I.ok.hd hc) fun s' p out c ys k g o hp hg hi pm hs => ?_
    have hn : H p = none := I.hok.fresh hp
    have hl : (ys.map V.str).length ≤ sizeLine := by
      rw [List.length_map, pm.length_eq]
      exact hlen
    have J : Inv X pins σ (upd H p (.lst (ys.map V.str))) { s with heap := s'.heap, gens := s'.gens, drawn := s'.drawn, toks := s'.toks } :=
      I.call (ch := []) (Un.laid k hp hn) (I.hok.laid k hp ⟨hl, out.toList, c, vals_of_strs hi, hg⟩) (by rw [g]; exact I.bare) (fun _ z => nomatch z)
    have e : s' = { s with heap := s'.heap, gens := s'.gens, drawn := s'.drawn, toks := s'.toks } := by
      cases s'
      cases s
      cases o
      rfl
    rw [e]
    exact ⟨.ref p, _, J, rfl, q p ys hn pm hs⟩
  · obtain ⟨its, rv, pl, hz2⟩ := I.list hS
    have hS2 := Vals.strs rv
    refine sorted_strsAny pl.isList hS2 (by rw [← rv.length]; exact hz2) fun out ys h1 h2 h3 => ?_
    obtain ⟨c, hcc⟩ := sortedAll_at s.heap its out
    have hn : H (s.heap.objs.size + 1) = none := I.hok.fresh (Nat.le_succ _)
    refine ⟨.ref (s.heap.objs.size + 1), _, I.laid (o := .lst (ys.map V.str)) (t' := s.toks) (fun _ _ => sortedAll_old) (Nat.le_succ _) (show ObjOk X.prog X.w _ _ _ (.lst (ys.map V.str)) from ⟨?_, out.toList, c, vals_of_strs h1, hcc⟩), rfl, q _ ys hn h2 h3⟩
    rw [List.length_map, h2.length_eq, sizeLine_eq]
    omega
end
end Gd
namespace Gd
open PySem PySem.Spec PyProof.Rows L2
/-- texts in ascending order -/
theorem risingS_pw : ∀ (ss : List Str) (p : Str), risingS p ss = true → (p :: ss).Pairwise fun a b => ¬ (tl b < tl a)
  | [], p, _ => List.pairwise_singleton _ _
  | x :: r, p, h => by
    rw [risingS, Bool.and_eq_true] at h
    have h1 : ¬ (tl x < tl p) := by
      have := h.1
      rw [ltCps_eq] at this
      simpa using this
    have ih := risingS_pw r x h.2
    refine List.Pairwise.cons (fun b hb => ?_) ih
    rcases List.mem_cons.1 hb with e | e
    · rw [e]; exact h1
    · have h2 : ¬ (tl b < tl x) := (List.pairwise_cons.1 ih).1 b e
      exact List.not_lt.2 (List.le_trans (List.not_lt.1 h1) (List.not_lt.1 h2))
theorem sortedS_pw : ∀ {ss : List Str}, sortedS ss = true → ss.Pairwise fun a b => ¬ (tl b < tl a)
  | [], _ => List.Pairwise.nil
  | x :: r, h => risingS_pw r x h
/-- two ascending lists of different texts with the same members are one -/
theorem sortedS_eq {a b : List Str} (ha : sortedS a = true) (hb : sortedS b = true) (p : a.Perm b) : a = b :=
  List.Perm.eq_of_pairwise (le := fun x y => ¬ (tl y < tl x)) (fun x y _ _ h1 h2 => TL.ext_tl (List.le_antisymm (List.not_lt.1 h1) (List.not_lt.1 h2))) (sortedS_pw ha) (sortedS_pw hb) p
end Gd
/-! Kinds compared, a text removed, lists of stars. -/
namespace Gd
open PySem PySem.Spec PyProof.Rows L2
theorem TyN.b {K : PySem.W.Frag} {H : Hp} {x : V} {T : String} (h : TyN K H x T) : TyB K H x T := by
  cases h with
  | non => exact .non
  | bl b => exact .bl b
  | int i => exact .int i
  | str s => exact .str s
  | lst h => exact .lst h
  | tup h => exact .tup (SqT.of h)
  | dct h => exact .dK h
def uTyp (K : PySem.W.Frag) : List V → Hp → VK → Prop := fun xs H Q => ∃ x T, xs = [x] ∧ TyN K H x T ∧ Q (.ty T) H
theorem cu_typ {X : Cx} : CallR X (.type "type") (uTyp X.K) := by
  intro pins s σ H xs us Q I r h
  obtain ⟨x, T, e, t, q⟩ := h
  exact call_type1 pins s σ H xs us Q I r ⟨x, T, e, t.b, q⟩
theorem kcu_typ {X : Cx} {K : PySem.W.Frag} (h : K = X.K) : CallR X (.type "type") (uTyp K) := by
  subst h
  exact cu_typ
theorem tyty {a : String} (h : a ∈ ["NoneType", "bool", "int", "str", "list", "tuple", "dict"]) : ∀ s : Shared, s.TypeIs (.type a) "type" := by
  simp only [List.mem_cons, List.not_mem_nil, or_false] at h
  rcases h with rfl | rfl | rfl | rfl | rfl | rfl | rfl
  · exact TypeEq.meta_NoneType
  · exact TypeEq.meta_bool
  · exact TypeEq.meta_int
  · exact TypeEq.meta_str
  · exact TypeEq.meta_list
  · exact TypeEq.meta_tuple
  · exact TypeEq.meta_dict
def uEqT : R2 := fun x y H Q => ∃ a b, x = .ty a ∧ y = .ty b ∧ a ∈ ["NoneType", "bool", "int", "str", "list", "tuple", "dict"] ∧ b ∈ ["NoneType", "bool", "int", "str", "list", "tuple", "dict"] ∧ Q (.bl (decide (a = b))) H
theorem ou_eqT {X : Cx} : OpR X (compareOp .Eq) uEqT := by
  intro pins s σ H x y v u Q I rx ry h
  obtain ⟨a, b, rfl, rfl, ha, hb, q⟩ := h
  cases (show v = Value.type a from rx)
  cases (show u = Value.type b from ry)
  by_cases e : a = b
  · subst e
    rw [decide_eq_true rfl] at q
    exact TypeEq.eq_type_same (tyty ha) ⟨.bl true, H, I, rfl, q⟩
  · rw [decide_eq_false e] at q
    exact TypeEq.eq_type_other (tyty ha) (tyty hb) (beq_eq_false_iff_ne.mpr fun z => e (Value.type.inj z)) ⟨.bl false, H, I, rfl, q⟩
theorem TyN.mem7 {K : PySem.W.Frag} {H : Hp} {x : V} {T : String} (h : TyN K H x T) : T ∈ ["NoneType", "bool", "int", "str", "list", "tuple", "dict"] := by
  cases h <;> decide
theorem rd_typ {K : PySem.W.Frag} {H : Hp} {Q : VK} {x : V} {T : String} (t : TyN K H x T) (q : Q (.ty T) H) : uTyp K [x] H Q := ⟨x, T, rfl, t, q⟩
theorem rd_eqT {K : PySem.W.Frag} {H : Hp} {Q : VK} {x : V} {T b : String} (t : TyN K H x T) (q : Q (.bl (decide (T = b))) H) (hb : b ∈ ["NoneType", "bool", "int", "str", "list", "tuple", "dict"] := by decide) : uEqT (.ty T) (.ty b) H Q :=
  ⟨T, b, rfl, rfl, t.mem7, hb, q⟩

theorem rd_eqTt {H : Hp} {Q : VK} {b : String} (q : Q (.bl true) H) (hb : b ∈ ["NoneType", "bool", "int", "str", "list", "tuple", "dict"] := by decide) : uEqT (.ty b) (.ty b) H Q :=
  ⟨b, b, rfl, rfl, hb, hb, by rw [decide_eq_true rfl]; exact q⟩
theorem rd_eqTf {K : PySem.W.Frag} {H : Hp} {Q : VK} {x : V} {T b : String} (t : TyN K H x T) (n : T ≠ b) (q : Q (.bl false) H) (hb : b ∈ ["NoneType", "bool", "int", "str", "list", "tuple", "dict"] := by decide) : uEqT (.ty T) (.ty b) H Q :=
  ⟨T, b, rfl, rfl, t.mem7, hb, by rw [decide_eq_false n]; exact q⟩

/-! ### list.remove of a text -/
def eqs (k : Str) (v : Value) : Bool := match v with
  | .str n _ => n.cps.toList == k.cps.toList
  | _ => false
theorem eqs_gives {k : Str} {t : Tok} : ∀ {us : List Value} {ns : List Str}, StrsAre us ns → ∀ y ∈ us, MeetsSeq.EqGives y (.str k t) (eqs k y)
  | _, _, .nil => fun y hy => by cases hy
  | _, _, .cons n t' h => fun y hy => by
    rcases List.mem_cons.mp hy with e | e
    · rw [e]
      exact SeqRoads2.EqGives.str n k t' t
    · exact eqs_gives h y e
theorem erase_mapS : ∀ (l : List Str) (j : Nat), (l.map V.str).eraseIdx j = (l.eraseIdx j).map V.str
  | [], j => by simp
  | a :: r, 0 => by simp
  | a :: r, j + 1 => by
    have ih := erase_mapS r j
    simp [ih]
theorem erase_at : ∀ (l : List Str) (k : Str) (j : Nat), l[j]? = some k → (∀ m : Nat, m < j → l[m]? ≠ some k) → l.eraseIdx j = l.erase k
  | [], k, j, h, _ => by simp at h
  | a :: r, k, 0, h, _ => by
    have e : a = k := by simpa using h
    simp [e]
  | a :: r, k, j + 1, h, n => by
    have e : a ≠ k := fun e => n 0 (by omega) (by simp [e])
    have ih := erase_at r k j (by simpa using h) fun m hm => by simpa using n (m + 1) (by omega)
    rw [List.eraseIdx_cons_succ, ih, List.erase_cons_tail (by simpa using e)]
theorem first_at : ∀ (l : List Str) (k : Str), k ∈ l → ∃ j, l[j]? = some k ∧ ∀ m : Nat, m < j → l[m]? ≠ some k
  | [], k, h => by cases h
  | a :: r, k, h => by
    by_cases e : a = k
    · exact ⟨0, by simp [e], fun m hm => by omega⟩
    · obtain ⟨j, h1, h2⟩ := first_at r k (by
        rcases List.mem_cons.mp h with h | h
        · exact absurd h.symm e
        · exact h)
      refine ⟨j + 1, by simpa using h1, fun m hm => ?_⟩
      cases m with
      | zero => simpa using e
      | succ m => simpa using h2 m (by omega)
def uRem : V → List V → Hp → VK → Prop := fun x xs H Q => ∃ (l : Addr) (ns : List Str) (k : Str), x = .ref l ∧ xs = [.str k] ∧ H l = some (.lst (ns.map V.str)) ∧ k ∈ ns ∧ Q .non (upd H l (.lst ((ns.erase k).map V.str)))
theorem mu_remT {X : Cx} : MtM X "list.remove" uRem := by
  intro pins s σ H x xs v us Q I rx rxs h
  obtain ⟨l, ns, k, rfl, rfl, hH, hk, q⟩ := h
  obtain ⟨j, hj, hno⟩ := first_at ns k hk
  rw [← erase_at ns k j hj hno] at q
  cases rx
  obtain ⟨u, rfl, ru⟩ := rxs.one
  obtain ⟨t, rfl⟩ := ru
  obtain ⟨z, its, n, r, hl, e⟩ := I.lstM hH
  have hi := Vals.strs r
  rw [List.length_map] at hl z
  have hjn : j < ns.length := (List.getElem?_eq_some_iff.mp hj).1
  have hjl : j < its.toArray.size := by rw [List.size_toArray]; omega
  have at_ : ∀ (m : Nat) (hm : m < ns.length) (hm' : m < its.toArray.size), ∃ tm, its.toArray[m] = .str ns[m] tm := by
    intro m hm hm'
    obtain ⟨tm, hmt⟩ := strs_nth hi m its.toArray[m] (by simp [List.getElem?_eq_getElem (show m < its.length by simpa using hm')])
    refine ⟨tm, hmt.trans ?_⟩
    rw [List.getD_eq_getElem?_getD, List.getElem?_eq_getElem hm]
    rfl
  refine call_meets PySem.F.slot_list_remove ⟨_, e, rfl⟩ PySem.F.entry_list_remove (PySem.F.args_list_remove_2 _ _)
    (MeetsSeq.list_remove l its.toArray n (.str k t) (eqs k) (fun y hy => eqs_gives hi y (by simpa using hy)) j hjl ?_ ?_ (by rw [List.size_toArray]; omega)) ⟨e, ?_⟩
  · obtain ⟨tj, e1⟩ := at_ j hjn hjl
    rw [e1]
    have e2 : ns[j] = k := by
      rw [List.getElem?_eq_getElem hjn] at hj
      exact Option.some.inj hj
    rw [e2]
    exact beq_self_eq_true k.cps.toList
  · intro m hm hmj
    have hmn : m < ns.length := by omega
    obtain ⟨tm, e1⟩ := at_ m hmn hm
    rw [e1]
    refine beq_eq_false_iff_ne.mpr fun e2 => hno m hmj ?_
    rw [List.getElem?_eq_getElem hmn, TL.ext_tl e2]
  · have rr := r.eraseIdx j
    rw [erase_mapS] at rr
    refine ⟨.non, _, I.lset (its' := its.eraseIdx j) (t' := s.toks) hH e ?_ rr ?_, rfl, q⟩
    · show its.toArray.eraseIdxIfInBounds j = (its.eraseIdx j).toArray
      rw [List.eraseIdxIfInBounds_toArray]
    · have z2 : (ns.eraseIdx j).length ≤ ns.length := List.length_eraseIdx_le ..
      rw [List.length_map]
      omega
theorem u_rem {H : Hp} {Q : VK} {l : Addr} {ns : List Str} {k : Str} (h : H l = some (.lst (ns.map V.str))) (hk : k ∈ ns) (q : Q .non (upd H l (.lst ((ns.erase k).map V.str)))) : uRem (.ref l) [.str k] H Q :=
  ⟨l, ns, k, rfl, rfl, h, hk, q⟩
theorem GFn.no {P : Program} {w : World} {K : PySem.W.Frag} {mg : Str → Option Value} {base : Heap} {CX : CXT} {k : Nat} {f : Addr} {fd : FuncData} {ps : List Str} : GFn P w K mg base CX k f fd ps (fun _ _ _ _ => False) :=
  ⟨fun _ _ _ _ h => h.elim, fun _ _ _ _ _ _ _ _ _ _ _ _ _ _ h => h.elim⟩
section
variable {X : Cx} {K : PySem.W.Frag} {w : World} {e : Expr} {es : List Expr} {te : TE} {t : TA}
theorem kcu_set (h : K = X.K) (hw : w = X.w) (hc : X.calm = true) : CallR X (.type "set") (uSet K w) := by
  subst h hw
  exact cu_set hc
theorem kcu_sorted (h : K = X.K) (hw : w = X.w) (hc : X.calm = true) : CallR X (.builtin "sorted") (uSorted K w) := by
  subst h hw
  exact cu_sorted hc
def uList (K : PySem.W.Frag) : List V → Hp → VK → Prop := fun xs H Q => ∃ p ys, xs = [.ref p] ∧ (SqL K H p ys ∨ SqT K H p ys) ∧ ∀ l, H l = none → Q (.ref l) (upd H l (.lst ys))
theorem kcall_list (h : K = X.K) : CallR X (.type "list") (uList K) := by
  subst h
  exact call_list_of
theorem kpe_revL {k : Nat} {p1 p2 p3 pos : Pos} (h : K = X.K) (he : PE X e te) : PE X (.Subscript e (.Slice none none (some (.UnaryOp .USub (.Constant (.int 1) k p1) p2)) p3) pos) (tRevL K te) := by
  subst h
  exact pe_revL he
theorem kpa_star {p : Pos} (h : K = X.K) (he : PE X e te) (hr : PA X es t) (hs : starEach (.Starred e p :: es) X.env = (true, eval e X.env) :: starEach es X.env := by rfl) : PA X (.Starred e p :: es) (StX.tStar K te t) := by
  subst h
  exact StX.pa_star he hr hs
end
theorem u_set {K : PySem.W.Frag} {w : World} {H : Hp} {Q : VK} {a : Addr} {xs : List Str} (h : SqL K H a (xs.map V.str)) (hz : xs.length < 4000) (q : ∀ p, H p = none → Q (.ref p) (upd H p (SetTO w p (dedT xs)))) : uSet K w [.ref a] H Q :=
  ⟨a, xs, rfl, h, hz, q⟩
theorem u_sortedS {K : PySem.W.Frag} {w : World} {H : Hp} {Q : VK} {a : Addr} {xs : List Str} (h : H a = some (SetTO w a xs))
    (q : ∀ p ys, H p = none → ys.Perm xs → sortedS ys = true → Q (.ref p) (upd H p (.lst (ys.map V.str)))) : uSorted K w [.ref a] H Q := ⟨a, xs, rfl, .inl h, q⟩
theorem u_sortedL {K : PySem.W.Frag} {w : World} {H : Hp} {Q : VK} {a : Addr} {xs : List Str} (h : SqL K H a (xs.map V.str)) (hz : xs.length ≤ 100000)
    (q : ∀ p ys, H p = none → ys.Perm xs → sortedS ys = true → Q (.ref p) (upd H p (.lst (ys.map V.str)))) : uSorted K w [.ref a] H Q := ⟨a, xs, rfl, .inr ⟨h, hz⟩, q⟩
theorem u_list {K : PySem.W.Frag} {H : Hp} {Q : VK} {p : Addr} {ys : List V} (h : SqL K H p ys) (q : ∀ l, H l = none → Q (.ref l) (upd H l (.lst ys))) : uList K [.ref p] H Q := ⟨p, ys, rfl, .inl h, q⟩
theorem rd_revL {K : PySem.W.Frag} {te : TE} {σ : L2.St} {H : Hp} {Q : VK} (q : te σ H fun x H1 => ∃ a xs, x = .ref a ∧ SqL K H1 a xs ∧ ∀ p, H1 p = none → Q (.ref p) (upd H1 p (.lst xs.reverse))) : tRevL K te σ H Q := q
theorem u_revL {K : PySem.W.Frag} {H1 : Hp} {Q : VK} {b : Addr} {ys : List V} (h : SqL K H1 b ys) (q : ∀ p, H1 p = none → Q (.ref p) (upd H1 p (.lst ys.reverse))) :
    ∃ a xs, V.ref b = .ref a ∧ SqL K H1 a xs ∧ ∀ p, H1 p = none → Q (.ref p) (upd H1 p (.lst xs.reverse)) := ⟨b, ys, rfl, h, q⟩
theorem rd_star {K : PySem.W.Frag} {te : TE} {t : TA} {σ : L2.St} {H : Hp} {Q : List V → Hp → Prop} (q : te σ H fun y H1 => ∃ a xs, y = .ref a ∧ (SqT K H1 a xs ∨ SqL K H1 a xs) ∧ t σ H1 fun vs H2 => Q (xs ++ vs) H2) : StX.tStar K te t σ H Q := q
end Gd
/-! isinstance of two kinds; texts in lists, texts that begin with texts; clashes. -/
namespace Gd
open PySem PySem.Spec PyProof.Rows L2
def uIsi2 (K : PySem.W.Frag) : List V → Hp → VK → Prop := fun xs H Q => ∃ x tp A B T, xs = [x, .ref tp] ∧ H tp = some (.tup [.ty A, .ty B]) ∧
  A ∈ ["bool", "int", "str", "list", "tuple", "dict"] ∧ B ∈ ["bool", "int", "str", "list", "tuple", "dict"] ∧ TyN K H x T ∧ Q (.bl (isi T A || isi T B)) H
theorem cu_isi2 {X : Cx} : CallR X (.builtin "isinstance") (uIsi2 X.K) := by
  intro pins s σ H xs us Q I r h
  obtain ⟨x, tp, A, B, T, rfl, hp, hA, hB, hT, q⟩ := h
  refine call_isiT pins s σ H _ us Q I r ⟨x, tp, _, _, [.type A, .type B], isi T A || isi T B, rfl, hp, .cons (.ty A) (.cons (.ty B) .nil), hT.x, ?_, q⟩
  refine kitAny_cons (kit_ty (isi_ok T hT.mem A hA)) (fun e => ?_) (fun e => by rw [e]; rfl)
  refine kitAny_cons (kit_ty (isi_ok T hT.mem B hB)) (fun e2 => ?_) (fun e2 => by rw [e2, Bool.or_true])
  rw [e, e2]
  exact kitAny_nil
theorem kcu_isi2 {X : Cx} {K : PySem.W.Frag} (h : K = X.K) : CallR X (.builtin "isinstance") (uIsi2 K) := by
  subst h
  exact cu_isi2
theorem u_isi2 {K : PySem.W.Frag} {H : Hp} {Q : VK} {x : V} {tp : Addr} {A B T : String} (h : TyN K H x T) (hp : H tp = some (.tup [.ty A, .ty B])) (q : Q (.bl (isi T A || isi T B)) H)
    (hA : A ∈ ["bool", "int", "str", "list", "tuple", "dict"] := by decide) (hB : B ∈ ["bool", "int", "str", "list", "tuple", "dict"] := by decide) : uIsi2 K [x, .ref tp] H Q :=
  ⟨x, tp, A, B, T, rfl, hp, hA, hB, h, q⟩
theorem inV_strs (x : Str) (ws : List Str) : inV (.str x) (ws.map V.str) = decide (x ∈ ws) := by
  unfold inV
  rw [List.any_map, show (fun y => eqV y (V.str x)) ∘ V.str = fun w : Str => w == x from rfl, Bool.eq_iff_iff]
  simp only [List.any_eq_true, beq_iff_eq, exists_eq_right, decide_eq_true_eq]
theorem flat_strs (ws : List Str) : (ws.map V.str).all flatV = true := by simp [List.all_map, flatV]
theorem u_inW {K : PySem.W.Frag} {H : Hp} {Q : VK} {p : Addr} {x : Str} {ws : List Str} (h : SqL K H p (ws.map V.str)) (q : Q (.bl (decide (x ∈ ws))) H) : uIn K (.str x) (.ref p) H Q :=
  ⟨_, .inl h, rfl, flat_strs ws, by rw [inV_strs]; exact q⟩
theorem u_niW {K : PySem.W.Frag} {H : Hp} {Q : VK} {p : Addr} {x : Str} {ws : List Str} (h : SqL K H p (ws.map V.str)) (q : Q (.bl (!decide (x ∈ ws))) H) : uNi K (.str x) (.ref p) H Q :=
  ⟨_, .inl h, rfl, flat_strs ws, by rw [inV_strs]; exact q⟩
theorem cutV_from (xs : List V) {d : Int} (h : 0 ≤ d) : cutV xs (some d) none = xs.drop d.toNat := by
  unfold cutV
  have e := HT.sIx_nat xs.length 0 d.toNat
  rw [Int.toNat_of_nonneg h] at e
  rw [e, HT.sIx_none]
  by_cases hd : d.toNat ≤ xs.length
  · rw [Nat.min_eq_left hd, List.take_of_length_le (by rw [List.length_drop]; omega)]
  · rw [Nat.min_eq_right (by omega), List.drop_of_length_le (Nat.le_refl _), List.drop_of_length_le (by omega), List.take_nil]
/-! the clash right behind -/
def adj : List Str → Option (Str × Str)
  | x :: y :: r => if Txt.startswith y x = true then some (x, y) else adj (y :: r)
  | _ => none
theorem adj_none : ∀ {ys : List Str}, ys.Nodup → (∀ x ∈ ys, ∀ y ∈ ys, x ≠ y → Txt.startswith y x = false) → adj ys = none
  | [], _, _ => rfl
  | [x], _, _ => rfl
  | x :: y :: r, n, h => by
    have e : x ≠ y := by
      intro e
      subst e
      simp at n
    rw [adj, if_neg (by rw [h x (by simp) y (by simp) e]; simp)]
    exact adj_none (List.nodup_cons.mp n).2 fun a ha b hb => h a (by simp [ha]) b (by simp [hb])
theorem adj_some : ∀ {ys : List Str} {x y : Str}, adj ys = some (x, y) → x ∈ ys ∧ y ∈ ys ∧ Txt.startswith y x = true
  | [], _, _, h => by simp [adj] at h
  | [_], _, _, h => by simp [adj] at h
  | a :: b :: r, x, y, h => by
    rw [adj] at h
    split at h
    · rename_i c
      cases h
      exact ⟨by simp, by simp, c⟩
    · obtain ⟨h1, h2, h3⟩ := adj_some h
      exact ⟨List.mem_cons_of_mem _ h1, List.mem_cons_of_mem _ h2, h3⟩
/-- no two different ones clash -/
def NC (ws : List Str) : Prop := ∀ x ∈ ws, ∀ y ∈ ws, x ≠ y → Txt.startswith y x = false
theorem NC.adj {ws ys : List Str} (h : NC ws) (p : ys.Perm (dedT ws)) : adj ys = none := by
  refine adj_none (p.nodup_iff.mpr (dedT_nodup _)) fun x hx y hy => h x ?_ y ?_
  · exact dedT_mem.mp (p.mem_iff.mp hx)
  · exact dedT_mem.mp (p.mem_iff.mp hy)
/-- the uses played -/
def play (ws us : List Str) : List Str := us.foldl (fun w x => w.erase x ++ [x]) ws
theorem play_len : ∀ (us ws : List Str), (play ws us).length ≤ ws.length + us.length
  | [], ws => by simp [play]
  | u :: us, ws => by
    have ih := play_len us (ws.erase u ++ [u])
    have e := List.length_erase_le (a := u) (l := ws)
    unfold play at *
    simp only [List.foldl_cons, List.length_append, List.length_cons, List.length_nil] at *
    omega
theorem play_snoc (ws us : List Str) (x : Str) : play ws (us ++ [x]) = (play ws us).erase x ++ [x] := by
  unfold play
  rw [List.foldl_append]
  rfl
end Gd
/-! Defs with a star parameter, called by position, where nothing is being shown. -/
namespace Gd
open PySem PySem.Spec PyProof.Rows L2
/-- what a def gives for the values of a call -/
def GFr (P : Program) (w : World) (K : PySem.W.Frag) (mg : Str → Option Value) (base : Heap)
    (k : Nat) (f : Addr) (sp : Sp) : Prop :=
  ∀ (A : Around) (outer : List Env) (s : Shared) (H : Hp) (us : List Value),
    ∀ (vs : List V) (Q : VK) (E : XK), A.guards = some [] → Room k A →
    Env0 P w K mg base A outer s H → Vals vs us → sp vs H Q E →
    codeAny (model P w) A (.call (.ref f) ⟨us, []⟩) (CR CX0 outer P w H s Q E) s
/-- the first n as they are, the rest in a new tuple -/
def spRest (n : Nat) (sp : Sp) : Sp := fun vs H Q E =>
  ∃ ws rest, vs = ws ++ rest ∧ ws.length = n ∧ rest.length ≤ sizeLine ∧
    ∀ p, H p = none → sp (ws ++ [V.ref p]) (upd H p (.tup rest)) Q E
section
variable {P : Program} {w : World} {K : PySem.W.Frag} {mg : Str → Option Value} {base : Heap}
variable {k : Nat} {f : Addr} {fd : FuncData} {ps N : List Str} {sp : Sp}
theorem GFr.rest {x qual pv : Str} {st : Stmt} (F : Fun K x qual st f fd)
    (S : FnScope N (ps ++ [pv]) (defScope st))
    (bd : ∀ us rest : List Value, us.length = ps.length →
      bindArgs fd ⟨us ++ rest, []⟩ = (newTuple rest >>= fun t => pure (ps.zip us ++ [(pv, t)])))
    (body : ∀ (cdv : Value) (A : Around) (outer : List Env) (s : Shared) (H : Hp) (vs : List V) (Q : VK) (E : XK),
      A.guards = some [] → Room k (A.deeper (envOfC qual (defScope st) s.heap.objs.size f cdv)) → sp vs H Q E →
      ∃ t, PSs (cxOf CX0 P w K mg base N qual (defScope st) f cdv A outer s H E).nox (defBody st) t ∧
        t { nx := fun _ H' => Q .non H', rt := Q } (start N vs) H) :
    GFr P w K mg base (k + 1) f (spRest ps.length sp) := by
  obtain ⟨oc, od, kV, doc, pm, an, cdv, ct, osl, rfl, lk, hcd⟩ := F.ex
  rintro A outer s H us _ Q E gd hr e0 r ⟨ws, rest, rfl, n1, n2, next⟩
  obtain ⟨ua, ub, rfl, ra, rb⟩ := StX.vals_split r
  have fr : H s.heap.objs.size = none := e0.hok.fresh (Nat.le_refl _)
  have m1 : ua.length = ps.length := ra.length.symm.trans n1
  have m2 : ub.length ≤ sizeLine := by
    rw [← rb.length]
    exact n2
  let tp : Obj := { cls := .type "tuple", data := .seq ub.toArray }
  refine StX.run_bnd (CX := CX0) lk hcd S hr e0
    (G := fun xs G => ∃ p, H p = none ∧ xs = ws ++ [V.ref p] ∧ G = upd H p (.tup rest)) ?bind ?go
  case go =>
    rintro s2 _ _ ⟨p, hp, rfl, rfl⟩ room
    obtain ⟨t, h1, h2⟩ := body cdv A outer s2 _ _ Q E gd room (next p hp)
    exact ⟨t, h1.nox, h2⟩
  case bind =>
    intro A' Ex Q' h
    rw [bd ua ub m1]
    refine wpAny_bind (wpAny_newTuple (wpAny_pure ?_) m2)
    have ok : ObjOk P w (upd H s.heap.objs.size (.tup rest)) (s.heap.push tp) s.heap.objs.size (.tup rest) :=
      ⟨n2, ub, rb, _, Heap.get?_push_size _ rfl, rfl, _, rfl⟩
    have un := StX.un_laid (fs := frs outer) (s := s) (o := tp) (u := .tup rest) fr
    have z := h { s with heap := s.heap.push tp } _ (ws ++ [V.ref s.heap.objs.size]) (ua ++ [Value.ref s.heap.objs.size])
      (StX.env0_laid e0 ok) un rfl (fun e s' hc => hc) (ra.append (.cons rfl .nil))
      (by rw [List.length_append, List.length_append, n1] <;> rfl) ⟨_, fr, rfl, rfl⟩
    rw [List.zip_append m1.symm] at z
    exact z
end
/-- such a def of the module, by its name -/
structure GR (P : Program) (w : World) (K : PySem.W.Frag) (mg : Str → Option Value) (base : Heap) (k : Nat) (x : Str) (sp : Sp) : Prop where
  ex : ∃ f : Addr, mg x = some (.ref f) ∧ PySem.W.keepIn K (.ref f) = true ∧ GFr P w K mg base k f sp
section
variable {X : Cx} {j k : Nat} {f : Addr} {sp : Sp} {x : Str} {p pos : Pos} {e : Expr} {es : List Expr} {t : TA}
theorem run_r {pins : List (Addr × Obj)} {σ : L2.St} {H : Hp} {s : Shared} {Q : VK} {us : List Value} {vs : List V}
    (F : GFr X.prog X.w X.K X.mg X.base k f sp) (gd : X.A.guards = some []) (hr : Room k X.A)
    (I : Inv X pins σ H s) (r : Vals vs us) (h : sp vs H Q E0) :
    wpAny (model X.prog X.w) X.A (call (.ref f) us) (EP X pins σ Q) X.xe s := by
  refine wpAny_call (codeAny_mono (F X.A X.stack s H us vs Q E0 gd hr I.env0 r h) fun c s' hq => ?_)
  match c, hq with
  | .ok (.ret u), hq => exact I.after hq
  | .ok .next, hq => exact hq.elim
  | .ok .brk, hq => exact hq.elim
  | .ok .cont, hq => exact hq.elim
  | .error e, hq => exact pass0 pins σ H s e s' I hq
theorem pe_gr (cc : GR X.prog X.w X.K X.mg X.base k x sp) (gd : X.A.guards = some []) (hr : Room j X.A) (hk : k ≤ j) (hg : Gl X x) (ha : PA X (e :: es) t)
    (hdb : (x == ("__debug__" : Str)) = false := by decide) (he : starEach (e :: es) X.env = (false, eval e X.env) :: starEach es X.env := by rfl)
    (hpl : (backTo pos (starEach es X.env)).any (·.1) = false := by rfl) :
    PE X (.Call (.Name x p) (e :: es) [] pos) (tCall sp [] E0 t) := by
  obtain ⟨f, h1, h2, F⟩ := cc.ex
  refine ⟨fun pins s σ H Q I h => wpAny_Call_Name_kw (ld_glob I hg h1 ?_ hdb)⟩
  refine PySem.W.callWith_K (h₀ := X.base) I.ok.mod.kin h2 (thn (ha.run pos pins s σ H _ I h) ?_) he hpl
  exact fun us s1 ⟨vs, H1, I1, r, q⟩ => ⟨I1.kIn, run_r F gd (hr.mono hk) I1 r (by
    have q2 : sp (vs ++ []) H1 Q E0 := q
    rw [List.append_nil] at q2
    exact q2)⟩
end
end Gd
/-! How many members a set of texts has. -/
namespace Gd
open PySem PySem.Spec PyProof.Rows L2
def uLenS (w : World) : List V → Hp → VK → Prop := fun xs H Q => ∃ a ks, xs = [.ref a] ∧ H a = some (SetTO w a ks) ∧ Q (.int (ks.length : Int)) H
theorem cu_lenS {X : Cx} : CallR X (.builtin "len") (uLenS X.w) := by
  intro pins s σ H xs us Q I r h
  obtain ⟨a, ks, rfl, ha, q⟩ := h
  obtain ⟨o, es, ep, t, ho, hex, hd, g, pk, nd, hb, hf, hr, hl⟩ := setTO_get I ha
  rw [Vals.ref1 r]
  have e : es.size = ks.length := by
    rw [← pk.length_eq, List.length_map, Array.length_toList]
  have z := sizeLine_eq
  have z2 := fits_of_scanBound hb
  refine call_len_set ho hex hd hf (by omega) ?_
  rw [e]
  exact ⟨.int (ks.length : Int), H, I.tok _, ⟨_, rfl⟩, q⟩
theorem kcu_lenS {X : Cx} {w : World} (h : w = X.w) : CallR X (.builtin "len") (uLenS w) := by
  subst h
  exact cu_lenS
theorem u_lenS' {w : World} {H : Hp} {Q : VK} {a : Addr} {ks : List Str} (h : H a = some (SetTO w a ks)) (q : Q (.int (ks.length : Int)) H) : uLenS w [.ref a] H Q := ⟨a, ks, rfl, h, q⟩
theorem NC.sub {ws us : List Str} (h : NC ws) (m : ∀ u ∈ us, u ∈ ws) : NC us := fun x hx y hy => h x (m x hx) y (m y hy)
end Gd
/-! Uses played on books: what comes of them. -/
namespace Gd
open PySem PySem.Spec PyProof.Rows L2
theorem play_cons (ws us : List Str) (u : Str) : play ws (u :: us) = play (ws.erase u ++ [u]) us := rfl
theorem play_append (ws a b : List Str) : play ws (a ++ b) = play (play ws a) b := by
  unfold play
  rw [List.foldl_append]
theorem step_nodup {ws : List Str} {u : Str} (n : ws.Nodup) : (ws.erase u ++ [u]).Nodup := by
  rw [List.nodup_append]
  refine ⟨n.erase u, by simp, fun a ha b hb e => ?_⟩
  rw [List.mem_singleton.mp hb] at e
  subst e
  exact (n.mem_erase_iff.mp ha).1 rfl
theorem play_nodup : ∀ (us ws : List Str), ws.Nodup → (play ws us).Nodup
  | [], _, n => n
  | u :: us, ws, n => by
    rw [play_cons]
    exact play_nodup us _ (step_nodup n)
theorem play_mem : ∀ (us ws : List Str) (x : Str), x ∈ play ws us ↔ x ∈ ws ∨ x ∈ us
  | [], ws, x => by simp [play]
  | u :: us, ws, x => by
    rw [play_cons, play_mem us, List.mem_append, List.mem_singleton, List.mem_cons]
    by_cases e : x = u
    · simp [e]
    · simp [e, List.mem_erase_of_ne e]
theorem play_new : ∀ (us ws : List Str), (ws ++ us).Nodup → play ws us = ws ++ us
  | [], ws, _ => by simp [play]
  | u :: us, ws, n => by
    have hu : u ∉ ws := fun h => (List.nodup_append.mp n).2.2 u h u (by simp) rfl
    rw [play_cons, List.erase_of_not_mem hu, play_new us (ws ++ [u]) (by simpa using n)]
    simp
theorem play_self {ws : List Str} (n : ws.Nodup) : play [] ws = ws := play_new ws [] (by simpa using n)
/-- what was not used stays in front, in its order -/
theorem play_rest {ws : List Str} (n : ws.Nodup) (us : List Str) : play ws us = ws.filter (fun x => !decide (x ∈ us)) ++ play [] us := by
  generalize hr : us.reverse = rs
  obtain rfl : us = rs.reverse := by rw [← hr, List.reverse_reverse]
  clear hr
  induction rs with
  | nil =>
    show ws = _ ++ []
    rw [List.append_nil]
    exact (List.filter_eq_self.mpr (by simp)).symm
  | cons u rs ih =>
    rw [List.reverse_cons, play_snoc, play_snoc, ih]
    have nd := play_nodup rs.reverse ws n
    rw [ih] at nd
    have e : (ws.filter (fun x => !decide (x ∈ rs.reverse)) ++ play [] rs.reverse).erase u = ws.filter (fun x => !decide (x ∈ rs.reverse ++ [u])) ++ (play [] rs.reverse).erase u := by
      by_cases hu : u ∈ rs.reverse
      · have hf : u ∉ ws.filter (fun x => !decide (x ∈ rs.reverse)) := by
          rw [List.mem_filter]
          simp [hu]
        rw [List.erase_append_right _ hf]
        congr 1
        refine List.filter_congr fun x _ => ?_
        by_cases e : x = u
        · simp [e, hu]
        · simp [e]
      · have hp : u ∉ play [] rs.reverse := by
          rw [play_mem]
          simpa using hu
        rw [List.erase_of_not_mem hp]
        have hf : ws.filter (fun x => !decide (x ∈ rs.reverse ++ [u])) = (ws.filter (fun x => !decide (x ∈ rs.reverse))).erase u := by
          rw [List.Nodup.erase_eq_filter (show List.Nodup _ from List.Pairwise.filter _ n), List.filter_filter]
          refine List.filter_congr fun x _ => ?_
          by_cases e : x = u
          · simp [e]
          · simp [e]
        rw [hf]
        by_cases hm : u ∈ ws.filter (fun x => !decide (x ∈ rs.reverse))
        · rw [List.erase_append_left _ hm]
        · rw [List.erase_append_right _ hm, List.erase_of_not_mem hm, List.erase_of_not_mem hp]
    rw [e, List.append_assoc]
theorem play_none {ws us : List Str} (n : ws.Nodup) (h : ∀ x ∈ ws, x ∈ us) : play ws us = play [] us := by
  rw [play_rest n, List.filter_eq_nil_iff.mpr fun x hx => by simp [h x hx]]
  rfl
theorem play_twice : ∀ (us ws : List Str), ws.Nodup → play ws (us.flatMap fun u => [u, u]) = play ws us
  | [], _, _ => rfl
  | u :: us, ws, n => by
    have e : play ws [u, u] = ws.erase u ++ [u] := by
      show (ws.erase u ++ [u]).erase u ++ [u] = _
      have hu : u ∉ ws.erase u := fun h => (n.mem_erase_iff.mp h).1 rfl
      rw [List.erase_append_right _ hu]
      simp
    rw [List.flatMap_cons, play_append, e]
    exact play_twice us _ (step_nodup n)
end Gd
/-! Calls whose values all stand behind names. -/
namespace Gd
open PySem PySem.Spec PyProof.Rows L2
def pickV (ix : List Nat) (vs : List V) : List V := ix.map fun i => vs.getD i .non
def pickU (ix : List Nat) (us : List Value) : List Value := ix.map fun i => us.getD i .none
theorem pick_rel : ∀ (ix : List Nat) {vs : List V} {us : List Value}, Vals vs us → Vals (pickV ix vs) (pickU ix us)
  | [], _, _, _ => .nil
  | i :: ix, vs, us, r => by
    refine .cons ?_ (pick_rel ix r)
    clear ix
    induction r generalizing i with
    | nil => exact rfl
    | cons a r ih =>
      cases i with
      | zero => exact a
      | succ i => exact ih i
structure GK (P : Program) (w : World) (K : PySem.W.Frag) (mg : Str → Option Value) (base : Heap) (k : Nat) (x : Str) (ks : List Str) (ix : List Nat) (sp : Sp) : Prop where
  ex : ∃ (f : Addr) (fd : FuncData) (ps : List Str), mg x = some (.ref f) ∧ PySem.W.keepIn K (.ref f) = true ∧
    (∀ us : List Value, us.length = ks.length → bindArgs fd ⟨[], ks.zip us⟩ = pure (ps.zip (pickU ix us))) ∧ GFn P w K mg base CX0 k f fd ps sp
def tKw (n : Nat) (ix : List Nat) (sp : Sp) (tk : TA) : TE := fun σ H Q => tk σ H fun zs H2 => zs.length = n ∧ sp (pickV ix zs) H2 Q E0
theorem rd_kw {n : Nat} {ix : List Nat} {sp : Sp} {tk : TA} {σ : L2.St} {H : Hp} {Q : VK} (q : tk σ H fun zs H2 => zs.length = n ∧ sp (pickV ix zs) H2 Q E0) : tKw n ix sp tk σ H Q := q
section
variable {X : Cx} {j k n : Nat} {sp : Sp} {x : Str} {p pos : Pos} {kws : List Keyword} {ks : List Str} {ix : List Nat} {tk : TA}
theorem pe_gck (cc : GK X.prog X.w X.K X.mg X.base k x ks ix sp) (gd : X.A.guards = some []) (hr : Room j X.A) (hk : k ≤ j) (hg : Gl X x) (hn : ks.length = n) (hkw : PK X kws tk)
    (hdb : (x == ("__debug__" : Str)) = false := by decide)
    (hall : (backToKw pos (keywordEach kws X.env)).all (·.1.isSome) = true := by rfl)
    (hks : (backToKw pos (keywordEach kws X.env)).filterMap (·.1) = ks := by rfl)
    (hpl : ((backTo pos (starEach [] X.env)).any (·.1) || (backToKw pos (keywordEach kws X.env)).any (·.1.isNone)) = false := by rfl) :
    PE X (.Call (.Name x p) [] kws pos) (tKw n ix sp tk) := by
  obtain ⟨f, fd, ps, h1, h2, hb, F⟩ := cc.ex
  refine ⟨fun pins s σ H Q I h => wpAny_Call_Name_kw (ld_glob I hg h1 ?_ hdb)⟩
  refine PySem.W.callWith_KW0 (h₀ := X.base) I.ok.mod.kin h2 hall (thn (hkw.run pos pins s σ H _ I h) ?_) hpl
  rintro us s1 ⟨vs, H1, I1, r, hl, q⟩
  refine ⟨I1.kIn, ?_⟩
  rw [hks]
  have e := hb us (by rw [← r.length, hl, hn])
  refine wpAny_call (codeAny_mono (F.go X.A X.stack s1 H1 ⟨[], ks.zip us⟩ _ _ Q E0 gd (hr.mono hk) I1.env0 (BindsTo.of_eq e) (pick_rel ix r) q) fun c s' hq => ?_)
  match c, hq with
  | .ok (.ret u), hq => exact I1.after hq
  | .ok .next, hq => exact hq.elim
  | .ok .brk, hq => exact hq.elim
  | .ok .cont, hq => exact hq.elim
  | .error e, hq => exact pass0 pins σ H1 s1 e s' I1 hq
end
end Gd
open PySem PySem.Spec PyProof.Rows L2 Gd
local macro_rules | `(tactic| walk_at "sz") => `(tactic| first
  | assumption
  | (rw [sizeLine_eq]; simp only [List.length_cons, List.length_nil, List.length_map, List.length_append]; omega)
  | (rw [sizeLine_eq]; omega))
local macro_rules | `(tactic| walk_at "ne") => `(tactic| first
  | assumption
  | exact Ne.symm (by assumption)
  | (apply nn1 (by assumption); walk_at "lk")
  | (apply nn2 (by assumption); walk_at "lk"))
local macro_rules | `(tactic| walk_at "lk") => `(tactic| first
  | assumption
  | exact upd_same
  | exact SqL.of (by assumption)
  | exact SqT.of (by assumption)
  | (apply SqT.of; walk_at "lk")
  | (apply SqL.of; walk_at "lk")
  | ((refine (upd_ne ?_).trans ?_); (walk_at "ne"); walk_at "lk")
  | (apply Kp.get0 (by assumption); walk_at "lk")
  | (apply Kp.get1 (by assumption); walk_at "lk"; walk_at "ne"))
local macro_rules | `(tactic| walk_at "g1") => `(tactic| first
  | ((with_reducible refine' rd_var ?k1 ?_); (case k1 => exact rfl))
  | with_reducible refine rd_c ?_
  | with_reducible refine rd_cons ?_
  | with_reducible refine rd_nil ?_
  | with_reducible refine rd_op ?_
  | with_reducible refine rd_cb ?_
  | with_reducible refine rd_call ?_
  | with_reducible refine rd_seq ?_
  | with_reducible refine rd_asg ?_
  | with_reducible refine rd_gname ?_
  | with_reducible refine rd_nx ?_
  | with_reducible refine rd_rt ?_
  | with_reducible refine rd_next ?_
  | with_reducible refine rd_ret ?_
  | with_reducible refine rd_ifs ?_
  | with_reducible refine rd_test ?_
  | with_reducible refine tr_k ?_
  | with_reducible refine rd_tru ?_
  | with_reducible refine tr_bl ?_
  | with_reducible refine rd_tnot ?_
  | with_reducible refine rd_tand ?_
  | with_reducible refine rd_tor ?_
  | with_reducible refine iteT ?_
  | with_reducible refine iteF ?_
  | with_reducible refine ite_nt ?_
  | with_reducible refine ite_nf ?_
  | with_reducible refine u_addI ?_
  | with_reducible refine u_subI ?_
  | with_reducible refine u_eqI ?_
  | with_reducible refine u_neI ?_
  | with_reducible refine u_eqS ?_
  | with_reducible refine u_neS ?_
  | with_reducible refine u_eqB ?_
  | with_reducible refine u_neB ?_
  | with_reducible refine u_ltI ?_
  | with_reducible refine u_gtI ?_
  | with_reducible refine u_leI ?_
  | with_reducible refine u_geI ?_
  | with_reducible refine u_ltS ?_
  | with_reducible refine u_gtS ?_
  | ((with_reducible refine u_mod ?_ ?_); (· first | assumption | decide | omega))
  | ((with_reducible refine u_div ?_ ?_ ?_); (· first | assumption | decide | omega); (· first | assumption | decide))
  | ((with_reducible refine u_mulI ?_ ?_); (· first | exact Or.inl (Or.inl ⟨by decide, by decide⟩) | exact Or.inl (Or.inr ⟨by decide, by decide⟩)))
  | ((with_reducible refine u_pow ?_ ?_); (· exact ⟨by decide, by decide⟩))
  | ((with_reducible refine u_mulS ?_ ?_ ?_ ?_); (· first | assumption | omega | decide); (· first | assumption | omega | decide); (· first | assumption | decide))
  | ((with_reducible refine u_slS ?_ ?_); (· walk_at "sz"))
  | with_reducible refine rd_dnew ?_
  | ((with_reducible refine tr_m0 ?_ ?_); (· first | assumption | omega))
  | with_reducible refine rd_isB ?_
  | ((with_reducible refine' rd_gtup ?k1 ?k2 ?_); (case k1 => walk_at "lk"); (case k2 => exact rfl))
  | with_reducible refine rd_gcons ?_
  | with_reducible refine rd_gnil ?_
  | with_reducible refine rd_rU ?_
  | with_reducible refine tr_str ?_
  | with_reducible refine tr_ss ?_
  | with_reducible refine tr_p2 ?_
  | with_reducible refine tr_p3 ?_
  | with_reducible refine tr_ii ?_
  | ((with_reducible refine sz_and ?_ ?_); (· walk_at "sz"))
  | ((with_reducible refine u_lenS ?_ ?_); (· walk_at "sz"))
  | ((with_reducible refine u_addS ?_ ?_); (· walk_at "sz"))
  | with_reducible refine rd_andT ?_
  | with_reducible refine rd_orT ?_
  | with_reducible refine rd_notT ?_
  | with_reducible refine rd_lst ?_
  | with_reducible refine rd_tup ?_
  | with_reducible refine rd_ife ?_
  | with_reducible refine rd_tsl ?_
  | with_reducible refine rd_part ?_
  | with_reducible refine rd_nopart ?_
  | with_reducible refine tr_int ?_
  | with_reducible refine rd_par ?_
  | with_reducible refine rd_par3 ?_
  | with_reducible refine rd_gsub ?_
  | with_reducible refine rd_drop ?_
  | with_reducible refine rd_un ?_
  | with_reducible refine rd_forU ?_
  | with_reducible refine rd_for1 ?_
  | with_reducible refine rd_for2 ?_
  | with_reducible refine rd_forE ?_
  | with_reducible refine rd_forZ ?_
  | with_reducible refine rd_forV ?_
  | with_reducible refine rd_lcU ?_
  | with_reducible refine rd_lc1 ?_
  | with_reducible refine rd_lc2 ?_
  | with_reducible refine rd_lcE ?_
  | with_reducible refine rd_lcZ ?_
  | with_reducible refine rd_lcT ?_
  | with_reducible refine rd_yes ?_
  | with_reducible refine rd_bm ?_
  | with_reducible refine rd_bm0 ?_
  | with_reducible refine rd_m1 ?_
  | with_reducible refine rd_m0 ?_
  | with_reducible refine rd_callK ?_
  | with_reducible refine rd_retN ?_
  | with_reducible refine rd_brk ?_
  | with_reducible refine rd_bk ?_
  | with_reducible refine rd_ct ?_
  | with_reducible refine rd_cn ?_
  | with_reducible refine rd_revL ?_
  | with_reducible refine rd_star ?_
  | ((with_reducible refine' u_revL ?k1 ?_); (case k1 => walk_at "lk"))
  | ((with_reducible refine' u_ixL ?k1 ?k2 ?_); (case k1 => walk_at "lk"); (case k2 => exact rfl))
  | ((with_reducible refine' u_setL ?k1 ?k2 ?_); (case k1 => walk_at "lk"); (case k2 => exact rfl))
  | with_reducible refine u_isiT (TyN.str _) ?_
  | with_reducible refine u_isiT (TyN.int _) ?_
  | with_reducible refine u_isiT (TyN.bl _) ?_
  | ((with_reducible refine u_isiF (TyN.str _) ?_ ?_); · decide)
  | ((with_reducible refine u_isiF (TyN.int _) ?_ ?_); · decide)
  | ((with_reducible refine u_isiF (TyN.bl _) ?_ ?_); · decide)
  | ((with_reducible refine u_isiF TyN.non ?_ ?_); · decide))
local macro_rules | `(tactic| walk_at "go") => `(tactic| repeat (walk_at "g1"))
open PySem PySem.Spec PyProof.Rows L2 Gd

namespace My
open PySem PySem.Spec PyProof.Rows L2 Gd
def topS (i : Nat) : Stmt := PySem.Challenge.pw_ghosttext_k70_keys_of_words.main.body.getD i (.Pass ⟨0, 0, 0, 0⟩)
abbrev s__law_cell_at : Stmt := topS 25
abbrev N__law_cell_at : List Str := ["script", "k"]
theorem sc__law_cell_at : FnScope N__law_cell_at ["script", "k"] (defScope s__law_cell_at) := ⟨rfl, rfl, rfl, by decide +kernel, rfl, by decide +kernel, by decide +kernel⟩
abbrev s__law_draw : Stmt := topS 27
abbrev N__law_draw : List Str := ["pool", "many", "stir", "found"]
theorem sc__law_draw : FnScope N__law_draw ["pool", "many"] (defScope s__law_draw) := ⟨rfl, rfl, rfl, by decide +kernel, rfl, by decide +kernel, by decide +kernel⟩
abbrev s__law_apart : Stmt := topS 30
abbrev N__law_apart : List Str := ["terms", "found", "entry", "one"]
theorem sc__law_apart : FnScope N__law_apart ["terms"] (defScope s__law_apart) := ⟨rfl, rfl, rfl, by decide +kernel, rfl, by decide +kernel, by decide +kernel⟩
abbrev s__law_spelled : Stmt := topS 29
abbrev N__law_spelled : List Str := ["pool", "letters", "count", "k"]
theorem sc__law_spelled : FnScope N__law_spelled ["pool", "letters", "count"] (defScope s__law_spelled) := ⟨rfl, rfl, rfl, by decide +kernel, rfl, by decide +kernel, by decide +kernel⟩
abbrev s__law_fresh : Stmt := topS 34
abbrev N__law_fresh : List Str := ["pool", "shelf", "near", "cut", "entry"]
theorem sc__law_fresh : FnScope N__law_fresh ["pool", "shelf"] (defScope s__law_fresh) := ⟨rfl, rfl, rfl, by decide +kernel, rfl, by decide +kernel, by decide +kernel⟩
abbrev s__law_mixed : Stmt := topS 28
abbrev N__law_mixed : List Str := ["pool", "things", "left", "k"]
theorem sc__law_mixed : FnScope N__law_mixed ["pool", "things"] (defScope s__law_mixed) := ⟨rfl, rfl, rfl, by decide +kernel, rfl, by decide +kernel, by decide +kernel⟩
abbrev s__law_pool : Stmt := topS 26
abbrev N__law_pool : List Str := ["cell", "place"]
theorem sc__law_pool : FnScope N__law_pool ["cell", "place"] (defScope s__law_pool) := ⟨rfl, rfl, rfl, by decide +kernel, rfl, by decide +kernel, by decide +kernel⟩
abbrev s__law_suggested : Stmt := topS 32
abbrev N__law_suggested : List Str := ["shelf", "typed", "found", "entry"]
theorem sc__law_suggested : FnScope N__law_suggested ["shelf", "typed"] (defScope s__law_suggested) := ⟨rfl, rfl, rfl, by decide +kernel, rfl, by decide +kernel, by decide +kernel⟩
abbrev s__law_typed : Stmt := topS 33
abbrev N__law_typed : List Str := ["shelf", "entry", "found"]
theorem sc__law_typed : FnScope N__law_typed ["shelf", "entry"] (defScope s__law_typed) := ⟨rfl, rfl, rfl, by decide +kernel, rfl, by decide +kernel, by decide +kernel⟩
abbrev s_is_text : Stmt := topS 8
abbrev N_is_text : List Str := ["value", "letter"]
theorem sc_is_text : FnScope N_is_text ["value"] (defScope s_is_text) := ⟨rfl, rfl, rfl, by decide +kernel, rfl, by decide +kernel, by decide +kernel⟩
abbrev s_is_word : Stmt := topS 9
abbrev N_is_word : List Str := ["value"]
theorem sc_is_word : FnScope N_is_word ["value"] (defScope s_is_word) := ⟨rfl, rfl, rfl, by decide +kernel, rfl, by decide +kernel, by decide +kernel⟩
abbrev s__is_word_list : Stmt := topS 15
abbrev N__is_word_list : List Str := ["value", "item"]
theorem sc__is_word_list : FnScope N__is_word_list ["value"] (defScope s__is_word_list) := ⟨rfl, rfl, rfl, by decide +kernel, rfl, by decide +kernel, by decide +kernel⟩
abbrev s__least_clash : Stmt := topS 16
abbrev N__least_clash : List Str := ["words", "ordered", "word", "other"]
theorem sc__least_clash : FnScope N__least_clash ["words"] (defScope s__least_clash) := ⟨rfl, rfl, rfl, by decide +kernel, rfl, by decide +kernel, by decide +kernel⟩
abbrev s_is_history : Stmt := topS 11
abbrev N_is_history : List Str := ["value"]
theorem sc_is_history : FnScope N_is_history ["value"] (defScope s_is_history) := ⟨rfl, rfl, rfl, by decide +kernel, rfl, by decide +kernel, by decide +kernel⟩
abbrev s_is_book : Stmt := topS 10
abbrev N_is_book : List Str := ["value"]
theorem sc_is_book : FnScope N_is_book ["value"] (defScope s_is_book) := ⟨rfl, rfl, rfl, by decide +kernel, rfl, by decide +kernel, by decide +kernel⟩
abbrev s_check_book : Stmt := topS 13
abbrev N_check_book : List Str := ["value"]
theorem sc_check_book : FnScope N_check_book ["value"] (defScope s_check_book) := ⟨rfl, rfl, rfl, by decide +kernel, rfl, by decide +kernel, by decide +kernel⟩
abbrev s_check_no_clash : Stmt := topS 14
abbrev N_check_no_clash : List Str := ["words", "pair"]
theorem sc_check_no_clash : FnScope N_check_no_clash ["words"] (defScope s_check_no_clash) := ⟨rfl, rfl, rfl, by decide +kernel, rfl, by decide +kernel, by decide +kernel⟩
abbrev s_check_word : Stmt := topS 12
abbrev N_check_word : List Str := ["value"]
theorem sc_check_word : FnScope N_check_word ["value"] (defScope s_check_word) := ⟨rfl, rfl, rfl, by decide +kernel, rfl, by decide +kernel, by decide +kernel⟩
abbrev s__check_entry : Stmt := topS 23
abbrev N__check_entry : List Str := ["book", "word"]
theorem sc__check_entry : FnScope N__check_entry ["book", "word"] (defScope s__check_entry) := ⟨rfl, rfl, rfl, by decide +kernel, rfl, by decide +kernel, by decide +kernel⟩
abbrev s_last_with : Stmt := topS 20
abbrev N_last_with : List Str := ["book", "text", "word"]
theorem sc_last_with : FnScope N_last_with ["book", "text"] (defScope s_last_with) := ⟨rfl, rfl, rfl, by decide +kernel, rfl, by decide +kernel, by decide +kernel⟩
abbrev s_typed_letters : Stmt := topS 21
abbrev N_typed_letters : List Str := ["book", "word", "length"]
theorem sc_typed_letters : FnScope N_typed_letters ["book", "word"] (defScope s_typed_letters) := ⟨rfl, rfl, rfl, by decide +kernel, rfl, by decide +kernel, by decide +kernel⟩
abbrev s_key_text : Stmt := topS 19
abbrev N_key_text : List Str := ["book", "word"]
theorem sc_key_text : FnScope N_key_text ["book", "word"] (defScope s_key_text) := ⟨rfl, rfl, rfl, by decide +kernel, rfl, by decide +kernel, by decide +kernel⟩
abbrev s_count_keys : Stmt := topS 22
abbrev N_count_keys : List Str := ["book", "word"]
theorem sc_count_keys : FnScope N_count_keys ["book", "word"] (defScope s_count_keys) := ⟨rfl, rfl, rfl, by decide +kernel, rfl, by decide +kernel, by decide +kernel⟩
abbrev s_keys_for : Stmt := topS 18
abbrev N_keys_for : List Str := ["book", "word"]
theorem sc_keys_for : FnScope N_keys_for ["book", "word"] (defScope s_keys_for) := ⟨rfl, rfl, rfl, by decide +kernel, rfl, by decide +kernel, by decide +kernel⟩
abbrev s__law_right : Stmt := topS 35
abbrev N__law_right : List Str := ["shelf", "entry", "before", "letters", "told", "due"]
theorem sc__law_right : FnScope N__law_right ["shelf", "entry"] (defScope s__law_right) := ⟨rfl, rfl, rfl, by decide +kernel, rfl, by decide +kernel, by decide +kernel⟩
abbrev s__law_words : Stmt := topS 31
abbrev N__law_words : List Str := ["pool", "script", "style", "found", "many", "letters", "size", "head", "tail", "k"]
theorem sc__law_words : FnScope N__law_words ["pool", "script"] (defScope s__law_words) := ⟨rfl, rfl, rfl, by decide +kernel, rfl, by decide +kernel, by decide +kernel⟩
abbrev s_law : Stmt := topS 36
abbrev N_law : List Str := ["script", "k", "pool", "shelf", "turn", "some", "entry", "one", "j"]
theorem sc_law : FnScope N_law ["script"] (defScope s_law) := ⟨rfl, rfl, rfl, by decide +kernel, rfl, by decide +kernel, by decide +kernel⟩
structure Nm (mg : Str → Option Value) : Prop where
  all_ : mg "all" = none
  isinstance_ : mg "isinstance" = none
  len_ : mg "len" = none
  list_ : mg "list" = none
  max_ : mg "max" = none
  min_ : mg "min" = none
  range_ : mg "range" = none
  repr_ : mg "repr" = none
  reversed_ : mg "reversed" = none
  set_ : mg "set" = none
  sorted_ : mg "sorted" = none
  str_ : mg "str" = none
  type_ : mg "type" = none
  zip_ : mg "zip" = none
  LETTERS_ : ∃ t, mg "LETTERS" = some (.str "abcdefghijklmnopqrstuvwxyz" t)
  MOST_LETTERS_ : ∃ t, mg "MOST_LETTERS" = some (.int 12 t)
section
variable {P : Program} {w : World} {K : PySem.W.Frag} {mg : Str → Option Value} {base : Heap}

/-! the source of draws: three ints -/
structure Src (H : Hp) (a : Addr) (n : Nat) : Prop where
  ex : ∃ i j k : Int, H a = some (.lst [.int i, .int j, .int k]) ∧ 0 ≤ i ∧ 0 ≤ j ∧ j < 2147483629 ∧ 0 ≤ k ∧ k ≤ n
theorem Src.mono {H : Hp} {a : Addr} {n m : Nat} (h : Src H a n) (l : n ≤ m) : Src H a m := by
  obtain ⟨i, j, k, h1, h2, h3, h4, h5, h6⟩ := h
  exact ⟨i, j, k, h1, h2, h3, h4, h5, by omega⟩
/-! values: a text, or of another kind -/
inductive IsV (K : PySem.W.Frag) (H : Hp) : V → Option Str → Prop
  | str (s : Str) (h : s.length ≤ 100000) (ok : PyData.strOk s = true) : IsV K H (.str s) (some s)
  | oth {v : V} {T : String} (h : TyN K H v T) (n : T ≠ "str") : IsV K H v none
theorem isi_str {T : String} (n : T ≠ "str") : isi T "str" = false := by
  unfold isi
  rw [beq_eq_false_iff_ne.mpr n]
  simp
theorem Src.kp {H H' : Hp} {a : Addr} {n : Nat} (h : Src H a n) (k : Kp [] H H') : Src H' a n := by
  obtain ⟨i, j, l, h1, h2⟩ := h
  exact ⟨i, j, l, k.get0 h1, h2⟩
theorem Src.new {H : Hp} {a p : Addr} {n : Nat} {o : HO} (h : Src H a n) (np : H p = none) : Src (upd H p o) a n := h.kp (Kp.refl.new np)
theorem Src.mut {H : Hp} {a p : Addr} {n : Nat} {o : HO} (h : Src H a n) (np : p ≠ a) : Src (upd H p o) a n := by
  obtain ⟨i, j, l, h1, h2⟩ := h
  exact ⟨i, j, l, by rw [upd_ne np.symm]; exact h1, h2⟩
theorem Src.ne {H : Hp} {a p : Addr} {n : Nat} (h : Src H a n) (np : H p = none) : p ≠ a := by
  obtain ⟨i, j, l, h1, h2⟩ := h
  exact (ne_of_none h1 np).symm
theorem Src.free {H H' : Hp} {a p : Addr} {n : Nat} (h : Src H' a n) (k : Kp [a] H H') (np : H' p = none) : H p = none := by
  obtain ⟨i, j, l, h1, h2⟩ := h
  exact k.free1 h1 np
def low (c : Nat) : Bool := decide (97 ≤ c ∧ c ≤ 122)
def isT (s : Str) : Bool := decide (s.length ≤ 12) && (tl s).all low
def isW (s : Str) : Bool := isT s && decide (0 < s.length)
def exT : Option Str → Bool
  | some s => isT s
  | none => false
def exW : Option Str → Bool
  | some s => isW s
  | none => false
theorem tl_letters : tl ("abcdefghijklmnopqrstuvwxyz" : Str) = List.range' 97 26 := by decide +kernel
theorem in_letters (c : Nat) : decide (c ∈ tl ("abcdefghijklmnopqrstuvwxyz" : Str)) = low c := by
  rw [tl_letters]
  unfold low
  rw [decide_eq_decide]
  rw [List.mem_range'_1]
  omega
def sp_is_text (K : PySem.W.Frag) : Sp := fun vs H Q _ => ∃ v o, vs = [v] ∧ IsV K H v o ∧ ∀ H', Kp [] H H' → Q (.bl (exT o)) H'
def sp_is_word (K : PySem.W.Frag) : Sp := fun vs H Q _ => ∃ v o, vs = [v] ∧ IsV K H v o ∧ ∀ H', Kp [] H H' → Q (.bl (exW o)) H'
theorem sz100k {n : Nat} (h : n ≤ 100000) : n < sizeLine := by
  rw [sizeLine_eq]
  omega
theorem ok_is_text (n : Nm mg)  {f : Addr} {fd : FuncData} (F : Fun K "is_text" "is_text" s_is_text f fd) :
    GFn P w K mg base CX0 1 f fd ["value"] (sp_is_text K) := by
  obtain ⟨_, g_LETTERS⟩ := n.LETTERS_
  obtain ⟨_, g_MOST_LETTERS⟩ := n.MOST_LETTERS_
  have n_all := n.all_
  have n_isinstance := n.isinstance_
  have n_len := n.len_
  have n_str := n.str_
  refine GFn.mk' F sc_is_text (fun vs H Q E h => ?_) (fun cdv A outer s H vs Q E gd hr h => ?_)
  · obtain ⟨v, o, rfl, _⟩ := h
    rfl
  obtain ⟨v, o, rfl, hv, q⟩ := h
  refine ⟨_, (pss_cons (ps_if (PW.pt (pw_or (pt_not (kpt_u (K := K) rfl (pe_callB (kcu_isi (K := K) rfl) (by rfl) n_isinstance (by decide +kernel) (pa_cons (pv 0) (pa_cons (pe_bltn (v := .ty "str") (by rfl) n_str (by decide +kernel) rfl) pa_nil))) (by intro _; rfl))) (pw_or1 (pt_cmpR ou_gt (pe_callB (kcu_len (K := K) rfl) (by rfl) n_len (by decide +kernel) (pa_cons (pv 0) pa_nil)) (pe_glob (v := .int 12) rfl g_MOST_LETTERS ⟨_, rfl⟩) (nomark _)))))
      (pss_one (ps_ret pe_bl))
      pss_nil)
      (pss_one (ps_ret (pe_callB (kcr_all (K := K) rfl rfl) (by rfl) n_all (by decide +kernel) (pa_cons (pe_lc (own := [("letter", 1)]) rfl sc_is_text.nd (kpi_u (K := K) rfl (pv 0)) (blkOk_by (own := [("letter", 1)]) (N := N_is_text) (sc := defScope s_is_text) (by decide +kernel)) (fun _ _ _ _ _ => (pg_name (i := 1) sc_is_text.nd rfl (.inl rfl))) (fun _ _ _ _ _ => pts_nil) (fun _ _ _ _ _ => (pe_cmpR (kou_in (K := K) rfl) (pv 1) (pe_glob (v := .str "abcdefghijklmnopqrstuvwxyz") rfl g_LETTERS ⟨_, rfl⟩) rfl))) pa_nil))))), ?_⟩
  cases hv with
  | oth ht hn =>
    walk_at "go"
    refine u_isiF ht (isi_str hn) ?_
    walk_at "go"
    exact q _ Kp.refl
  | str z hz ok =>
    have hz2 := sz100k hz
    walk_at "go"
    refine ite2 (fun c => ?_) (fun c => ?_)
    · walk_at "go"
      have e : exT (some z) = false := by
        simp only [decide_eq_true_eq] at c
        simp only [exT, isT, Bool.and_eq_false_iff, decide_eq_false_iff_not]
        left
        omega
      have := q _ Kp.refl
      rw [e] at this
      exact this
    · walk_at "go"
      refine co_sF (fun _ => true) (fun c => V.bl (low c)) hz2 (fun c hc C acc P H' k h hl r => ?_) (fun C H' nC k h => ?_)
      · walk_at "go"
        refine ⟨rfl, ?_⟩
        walk_at "go"
        refine u_inS ?_
        rw [in_letters]
        exact ⟨_, h, hl, r _ Kp.refl⟩
      · walk_at "go"
        refine ⟨C, (tl z).map low, rfl, SqL.of ?_, ?_⟩
        · rw [h, List.filter_eq_self.mpr (by simp), List.map_map]
          rfl
        · walk_at "go"
          have e : ((tl z).map low).all id = exT (some z) := by
            simp only [decide_eq_true_eq] at c
            simp only [exT, isT]
            rw [decide_eq_true (by omega), List.all_map]
            rfl
          rw [e]
          exact q _ k
theorem ok_is_word (n : Nm mg) (c_is_text : GC P w K mg base 1 "is_text" (sp_is_text K)) {f : Addr} {fd : FuncData} (F : Fun K "is_word" "is_word" s_is_word f fd) :
    GFn P w K mg base CX0 2 f fd ["value"] (sp_is_word K) := by
  have n_len := n.len_
  refine GFn.mk' F sc_is_word (fun vs H Q E h => ?_) (fun cdv A outer s H vs Q E gd hr h => ?_)
  · obtain ⟨v, o, rfl, _⟩ := h
    rfl
  obtain ⟨v, o, rfl, hv, q⟩ := h
  refine ⟨_, (pss_one (ps_ret (kpe_andT (K := K) rfl (pe_gc c_is_text gd hr (by decide) (by rfl) (pa_cons (pv 0) pa_nil)) (pe_one (pe_cmpR ou_gt (pe_callB (kcu_len (K := K) rfl) (by rfl) n_len (by decide +kernel) (pa_cons (pv 0) pa_nil)) pe_int (nomark _)))))), ?_⟩
  walk_at "go"
  refine ⟨_, o, rfl, hv, fun H' k => ?_⟩
  walk_at "go"
  cases hv with
  | oth ht hn =>
    exact q _ k
  | str z hz ok =>
    have hz2 := sz100k hz
    refine ite2 (fun c => ?_) (fun c => ?_)
    · walk_at "go"
      have e : decide (0 < (z.length : Int)) = exW (some z) := by
        simp only [exT] at c
        simp only [exW, isW, c, Bool.true_and, decide_eq_decide]
        omega
      rw [e]
      exact q _ k
    · have e : exT (some z) = exW (some z) := by
        simp only [exT, Bool.not_eq_true] at c
        simp only [exT, exW, isW, c, Bool.false_and]
      rw [e]
      exact q _ k
end
end My
open PySem PySem.Spec PyProof.Rows L2 Gd

namespace My
section
variable {P : Program} {w : World} {K : PySem.W.Frag} {mg : Str → Option Value} {base : Heap}
def sp__law_pool (K : PySem.W.Frag) : Sp := fun vs H Q _ => ∃ (c : Int) (k : Nat), vs = [.int c, .int k] ∧ k < 100 ∧
  ∀ H' p, Kp [] H H' → H p = none → Src H' p 0 → Q (.ref p) H'
theorem ok__law_pool (n : Nm mg)  {f : Addr} {fd : FuncData} (F : Fun K "_law_pool" "_law_pool" s__law_pool f fd) :
    GFn P w K mg base CX0 1 f fd ["cell", "place"] (sp__law_pool K) := by
  have n_max := n.max_
  refine GFn.mk' F sc__law_pool (fun vs H Q E h => ?_) (fun cdv A outer s H vs Q E gd hr h => ?_)
  · obtain ⟨c, k, rfl, _⟩ := h
    rfl
  obtain ⟨c, k, rfl, hk, q⟩ := h
  refine ⟨_, (pss_one (ps_ret (pe_lst (pa_cons (pe_callB (call_max2 rfl) (by rfl) n_max (by decide +kernel) (pa_cons (pe_op ou_sub (pv 0) (pe_op ou_pow pe_int pe_int)) (pa_cons pe_int pa_nil))) (pa_cons (pe_op ou_mod (pe_op (kou_add (K := K) rfl) (pe_op ou_mod (pv 0) pe_int) (pe_op ou_mul pe_int (pv 1))) pe_int) (pa_cons pe_int pa_nil)))))), ?_⟩
  walk_at "go"
  intro p np
  exact q _ p (Kp.refl.new np) np ⟨_, _, _, upd_same, by split <;> omega, by omega, by omega, by decide, by decide⟩
def sp__law_draw (K : PySem.W.Frag) : Sp := fun vs H Q _ => ∃ (a : Addr) (n : Nat) (m : Int), vs = [.ref a, .int m] ∧ Src H a n ∧ n < 2 ^ 60 ∧ 0 < m ∧ m.natAbs.log2 < 9000 ∧
  ∀ H' d, Kp [a] H H' → Src H' a (n + 1) → 0 ≤ d → d < m → Q (.int d) H'
theorem ok__law_draw (n : Nm mg)  {f : Addr} {fd : FuncData} (F : Fun K "_law_draw" "_law_draw" s__law_draw f fd) :
    GFn P w K mg base CX0 1 f fd ["pool", "many"] (sp__law_draw K) := by
  refine GFn.mk' F sc__law_draw (fun vs H Q E h => ?_) (fun cdv A outer s H vs Q E gd hr h => ?_)
  · obtain ⟨a, n, m, rfl, _⟩ := h
    rfl
  obtain ⟨a, c, m, rfl, ⟨i, j, k, hS, hi0, hj0, hj1, hk0, hk1⟩, hn, hm, hm2, q⟩ := h
  refine ⟨_, (pss_cons (ps_asg (pe_op (kou_add (K := K) rfl) (pe_ix (kix_seq (K := K) rfl) (pv 0) pe_int (fun _ _ => rfl)) pe_int) (pg_sub (pv 0) pe_int set_list))
      (pss_cons (ps_set (i := 2) sc__law_draw.nd rfl (.inl rfl) (pe_op ou_mod (pe_op ou_pow (pe_op (kou_add (K := K) rfl) (pe_op (kou_add (K := K) rfl) (pe_ix (kix_seq (K := K) rfl) (pv 0) pe_int (fun _ _ => rfl)) (pe_op ou_mul (pe_op ou_mul pe_int (pe_ix (kix_seq (K := K) rfl) (pv 0) pe_int (fun _ _ => rfl))) (pe_ix (kix_seq (K := K) rfl) (pv 0) pe_int (fun _ _ => rfl)))) pe_int) pe_int) pe_int))
      (pss_cons (ps_asg (pe_op ou_mod (pe_op (kou_add (K := K) rfl) (pe_op ou_mul (pv 2) pe_int) (pe_op ou_mul pe_int (pe_ix (kix_seq (K := K) rfl) (pv 0) pe_int (fun _ _ => rfl)))) pe_int) (pg_sub (pv 0) pe_int set_list))
      (pss_cons (ps_set (i := 3) sc__law_draw.nd rfl (.inl rfl) (pe_op ou_mod (pe_op ou_div (pe_ix (kix_seq (K := K) rfl) (pv 0) pe_int (fun _ _ => rfl)) pe_int) (pv 1)))
      (pss_cut (ps_if (pt_cmpR ou_gt (pe_ix (kix_seq (K := K) rfl) (pv 0) pe_int (fun _ _ => rfl)) pe_int (nomark _))
      (pss_cons (ps_set (i := 3) sc__law_draw.nd rfl (.inl rfl) (pe_op ou_mod (pe_ix (kix_seq (K := K) rfl) (pv 0) pe_int (fun _ _ => rfl)) (pv 1)))
        (pss_one (ps_asg (pe_op ou_div (pe_ix (kix_seq (K := K) rfl) (pv 0) pe_int (fun _ _ => rfl)) (pv 1)) (pg_sub (pv 0) pe_int set_list))))
      pss_nil)
      (pss_one (ps_ret (pv 3)))))))), ?_⟩
  walk_at "go"
  have kb : -(2 ^ 64) < k + 1 ∧ k + 1 < 2 ^ 64 := by omega
  refine u_mulI (.inl (.inr kb)) ?_
  have f0 : 0 ≤ 7 * (k + 1) * (k + 1) := Int.mul_nonneg (by omega) (by omega)
  have f1 : 7 * (k + 1) * (k + 1) ≤ 7 * 2 ^ 60 * 2 ^ 60 := by
    have g1 : 7 * (k + 1) ≤ 7 * 2 ^ 60 := by omega
    have g2 : k + 1 ≤ 2 ^ 60 := by omega
    exact Int.mul_le_mul g1 g2 (by omega) (by omega)
  generalize 7 * (k + 1) * (k + 1) = f at *
  walk_at "go"
  refine u_pow (powW (n := 140) (by decide) (by omega) (by decide) (by decide)) ?_
  walk_at "go"
  generalize hr : (j + f + 1) ^ Int.toNat 2 % 2147483587 = r
  have r0 : 0 ≤ r := by rw [← hr]; exact Int.emod_nonneg _ (by decide)
  have r1 : r < 2147483587 := by rw [← hr]; exact Int.emod_lt_of_pos _ (by decide)
  clear hr
  walk_at "go"
  have g0 : 0 ≤ (r * 69621 + 40692 * (k + 1)) % 2147483629 := Int.emod_nonneg _ (by decide)
  have g1 : (r * 69621 + 40692 * (k + 1)) % 2147483629 < 2147483629 := Int.emod_lt_of_pos _ (by decide)
  generalize (r * 69621 + 40692 * (k + 1)) % 2147483629 = g at *
  refine rd_cut (fun σ H' => ∃ d, σ = [some (.ref a), some (.int m), some (.int r), some (.int d)] ∧ 0 ≤ d ∧ d < m ∧ Kp [a] H H' ∧ Src H' a (c + 1)) ?_ ?_
  · walk_at "go"
    refine ite2 (fun c2 => ?_) (fun c2 => ?_)
    · walk_at "go"
      exact ⟨_, rfl, Int.emod_nonneg _ (by omega), Int.emod_lt_of_pos _ hm, ((Kp.refl.mutS (by simp)).mutS (by simp)).mutS (by simp), _, _, _, upd_same, Int.ediv_nonneg hi0 (by omega), g0, g1, by omega, by omega⟩
    · walk_at "go"
      exact ⟨_, rfl, Int.emod_nonneg _ (by omega), Int.emod_lt_of_pos _ hm, (Kp.refl.mutS (by simp)).mutS (by simp), _, _, _, upd_same, hi0, g0, g1, by omega, by omega⟩
  · rintro σ H' ⟨d, rfl, d0, d1, k1, S1⟩
    walk_at "go"
    exact q _ d k1 S1 d0 d1
/-! things in a drawn order -/
theorem erase_perm {α : Type} : ∀ (ls : List α) (j : Nat) {v : α}, ls[j]? = some v → ([v] ++ ls.eraseIdx j).Perm ls
  | [], j, v, h => by simp at h
  | x :: ls, 0, v, h => by
    have e : x = v := by simpa using h
    rw [e]
    exact .refl _
  | x :: ls, j + 1, v, h => by
    have ih := erase_perm ls j (v := v) (by simpa using h)
    exact (List.Perm.swap x v (ls.eraseIdx j)).trans (ih.cons x)
/-! words spelled by drawn letters -/
def sp__law_spelled (K : PySem.W.Frag) : Sp := fun vs H Q _ => ∃ (a : Addr) (n m : Nat) (L : Str), vs = [.ref a, .str L, .int m] ∧ Src H a n ∧ n < 2 ^ 50 ∧ 0 < L.length ∧ L.length ≤ 1000 ∧ m ≤ 1000 ∧
  ∀ H' w, Kp [a] H H' → Src H' a (n + m) → w.length = m → (∀ c ∈ tl w, c ∈ tl L) → Q (.str w) H'
theorem sum_ones : ∀ cs : List Nat, (cs.map ((fun x : Str => x.length) ∘ fun c => (⟨#[c]⟩ : Str))).sum = cs.length
  | [] => rfl
  | c :: cs => by
    rw [List.map_cons, List.sum_cons, sum_ones cs]
    show 1 + cs.length = cs.length + 1
    omega
theorem joinL0 : ∀ ys : List (List Nat), TL.joinL [] ys = ys.flatten
  | [] => rfl
  | [p] => by simp [TL.joinL]
  | p :: q :: r => by
    rw [TL.joinL, List.nil_append, joinL0 (q :: r)]
    rfl
theorem tl_spell (cs : List Nat) : tl (Txt.join "" (cs.map fun c => (⟨#[c]⟩ : Str))) = cs := by
  rw [TL.join_eq]
  show TL.tl _ = _
  rw [TL.tl_join, List.map_map, show (TL.tl ∘ fun c => (⟨#[c]⟩ : Str)) = fun c => [c] from rfl]
  show TL.joinL [] _ = _
  rw [joinL0]
  induction cs with
  | nil => rfl
  | cons c cs ih => rw [List.map_cons, List.flatten_cons, ih]; rfl
theorem ok__law_spelled (n : Nm mg) (c__law_draw : GC P w K mg base 1 "_law_draw" (sp__law_draw K)) {f : Addr} {fd : FuncData} (F : Fun K "_law_spelled" "_law_spelled" s__law_spelled f fd) :
    GFn P w K mg base CX0 2 f fd ["pool", "letters", "count"] (sp__law_spelled K) := by
  have n_len := n.len_
  have n_range := n.range_
  refine GFn.mk' F sc__law_spelled (fun vs H Q E h => ?_) (fun cdv A outer s H vs Q E gd hr h => ?_)
  · obtain ⟨a, n, m, L, rfl, _⟩ := h
    rfl
  obtain ⟨a, n', m, L, rfl, hS, hn, hL0, hL1, hm, q⟩ := h
  refine ⟨_, (pss_one (ps_ret (kpe_join (K := K) rfl pe_str (pe_lc (own := [("k", 3)]) rfl sc__law_spelled.nd (pi_range1 (by rfl) n_range (pa_cons (pv 2) pa_nil)) (blkOk_by (own := [("k", 3)]) (N := N__law_spelled) (sc := defScope s__law_spelled) (by decide +kernel)) (fun _ _ _ _ _ => (pg_name (i := 3) sc__law_spelled.nd rfl (.inl rfl))) (fun _ _ _ _ _ => pts_nil) (fun _ _ _ _ _ => (pe_ix (kix_seq (K := K) rfl) (pv 1) (pe_gc c__law_draw gd hr (by decide) (by rfl) (pa_cons (pv 0) (pa_cons (pe_callB (kcu_len (K := K) rfl) (by rfl) n_len (by decide +kernel) (pa_cons (pv 1) pa_nil)) pa_nil))) (fun _ _ => rfl))))))), ?_⟩
  walk_at "go"
  refine co_1 (by omega) (by omega) fun C nC => ⟨fun i H' => Kp [a] H H' ∧ Src H' a (n' + i) ∧ ∃ cs : List Nat, H' C = some (.lst ((cs.map fun c => (⟨#[c]⟩ : Str)).map V.str)) ∧ cs.length = i ∧ ∀ c ∈ cs, c ∈ tl L,
    ⟨Kp.refl.new nC, hS.new nC, [], upd_same, rfl, by simp⟩, ?_, ?_⟩
  · rintro i H2 hi ⟨k2, S2, cs, hC, cl, cm⟩
    have ca : C ≠ a := hS.ne nC
    walk_at "go"
    refine ⟨rfl, ?_⟩
    walk_at "go"
    refine ⟨a, _, _, rfl, S2, by omega, by omega, log_small (by omega), fun H3 d k3 S3 d0 d1 => ?_⟩
    walk_at "go"
    obtain ⟨c, ec, mc⟩ := atI_lt (xs := tl L) d0 (by rw [← TL.len_tl]; exact d1)
    refine u_ixS (by rw [sizeLine_eq]; omega) ec ?_
    walk_at "go"
    refine ⟨_, k3.get1 hC ca, by rw [sizeLine_eq, List.length_map, List.length_map]; omega, (k2.call1 k3 (by simp)).mutN nC, (S3.mut ca).mono (by omega), cs ++ [c], ?_, by simp [cl], fun x hx => ?_⟩
    · rw [upd_same, List.map_append, List.map_append]
      rfl
    · rcases List.mem_append.mp hx with h | h
      · exact cm x h
      · rw [List.mem_singleton.mp h]
        exact mc
  · rintro H2 ⟨k2, S2, cs, hC, cl, cm⟩
    walk_at "go"
    refine ⟨_, C, _, rfl, rfl, .inl (SqL.of hC), ?_, ?_⟩
    · have e : ((cs.map fun c => (⟨#[c]⟩ : Str)).map (·.length)).sum = cs.length := by
        rw [List.map_map]
        exact sum_ones cs
      rw [e, List.length_map]
      show cs.length + cs.length * 0 ≤ _
      omega
    · have et := tl_spell cs
      generalize Txt.join "" (cs.map fun c => (⟨#[c]⟩ : Str)) = z at *
      have el : z.length = cs.length := by rw [TL.len_tl]; exact congrArg _ et
      refine q _ z k2 (S2.mono (by omega)) (by omega) fun c hc => cm c ?_
      rw [et] at hc
      exact hc
def sp__law_mixed (K : PySem.W.Frag) : Sp := fun vs H Q _ => ∃ (a b : Addr) (n : Nat) (xs : List V), vs = [.ref a, .ref b] ∧ Src H a n ∧ n < 2 ^ 50 ∧ SqL K H b xs ∧ xs.length ≤ 1000 ∧
  ∀ H' p ys, Kp [a] H H' → H p = none → p ≠ a → Src H' a (n + xs.length) → H' p = some (.lst ys) → ys.Perm xs → Q (.ref p) H'
theorem ok__law_mixed (n : Nm mg) (c__law_draw : GC P w K mg base 1 "_law_draw" (sp__law_draw K)) {f : Addr} {fd : FuncData} (F : Fun K "_law_mixed" "_law_mixed" s__law_mixed f fd) :
    GFn P w K mg base CX0 2 f fd ["pool", "things"] (sp__law_mixed K) := by
  have n_len := n.len_
  have n_list := n.list_
  have n_range := n.range_
  refine GFn.mk' F sc__law_mixed (fun vs H Q E h => ?_) (fun cdv A outer s H vs Q E gd hr h => ?_)
  · obtain ⟨a, b, n, xs, rfl, _⟩ := h
    rfl
  obtain ⟨a, b, n', xs, rfl, hS, hn, hb, hl, q⟩ := h
  refine ⟨_, (pss_cons (ps_set (i := 2) sc__law_mixed.nd rfl (.inr rfl) (pe_callTy (kcall_list (K := K) rfl) (by rfl) n_list (by decide +kernel) (pa_cons (pv 1) pa_nil)))
      (pss_one (ps_ret (pe_lc (own := [("k", 3)]) rfl sc__law_mixed.nd (pi_range1 (by rfl) n_range (pa_cons (pe_callB (kcu_len (K := K) rfl) (by rfl) n_len (by decide +kernel) (pa_cons (pv 1) pa_nil)) pa_nil)) (blkOk_by (own := [("k", 3)]) (N := N__law_mixed) (sc := defScope s__law_mixed) (by decide +kernel)) (fun _ _ _ _ _ => (pg_name (i := 3) sc__law_mixed.nd rfl (.inl rfl))) (fun _ _ _ _ _ => pts_nil) (fun _ _ _ _ _ => (kpe_bm (K := K) rfl PySem.F.plainAttrs_list PySem.F.slot_list_pop PySem.F.type_list_pop mt_popAt (pv 2) (pa_cons (pe_gc c__law_draw gd hr (by decide) (by rfl) (pa_cons (pv 0) (pa_cons (pe_callB (kcu_len (K := K) rfl) (by rfl) n_len (by decide +kernel) (pa_cons (pv 2) pa_nil)) pa_nil))) pa_nil))))))), ?_⟩
  walk_at "go"
  refine u_list hb ?_
  intro p n_p
  generalize g_H1 : upd _ p _ = H1
  obtain ⟨k_H1, e_p⟩ := al_of n_p g_H1
  clear g_H1
  have S1 := hS.kp k_H1
  have pa := hS.ne n_p
  walk_at "go"
  refine u_lenL (k_H1.same.seq hb) ?_
  walk_at "go"
  refine co_1 (by omega) (by omega) fun C nC => ⟨fun i H' => Kp [a] H H' ∧ Src H' a (n' + i) ∧ C ≠ p ∧ ∃ ls ys, H' p = some (.lst ls) ∧ H' C = some (.lst ys) ∧ ls.length = xs.length - i ∧ ys.length = i ∧ (ys ++ ls).Perm xs,
    ⟨k_H1.wide.new nC, S1.new nC, (ne_of_none e_p nC).symm, xs, [], (upd_ne (ne_of_none e_p nC)).trans e_p, upd_same, rfl, rfl, .refl _⟩, ?_, ?_⟩
  · rintro i H2 hi ⟨k2, S2, cp, ls, ys, hp, hC, ll, yl, pm⟩
    have ca : C ≠ a := S1.ne nC
    have hi2 : i < xs.length := by omega
    walk_at "go"
    refine ⟨rfl, ?_⟩
    walk_at "go"
    refine ty_l hp ?_
    walk_at "go"
    refine u_lenL (SqL.of hp) ?_
    walk_at "go"
    refine ⟨a, _, _, rfl, S2, by omega, by omega, log_small (by omega), fun H3 d k3 S3 d0 d1 => ?_⟩
    have p3 := k3.get1 hp pa
    have C3 := k3.get1 hC ca
    obtain ⟨v, ev, mv⟩ := atI_lt (xs := ls) d0 d1
    obtain ⟨j, ej, evj, hj, hj2, hj3⟩ := atI_get ev
    walk_at "go"
    refine ⟨p, _, d, j, v, rfl, rfl, p3, by omega, by omega, ej, evj, ?_⟩
    have C4 : (upd H3 p (.lst (ls.eraseIdx j))) C = some (.lst ys) := (upd_ne cp).trans C3
    refine ⟨ys, C4, by rw [sizeLine_eq]; omega, ((k2.call1 k3 (by simp)).mutN n_p).mutN ?_, ?_, cp, ls.eraseIdx j, ys ++ [v], ?_, upd_same, ?_, ?_, ?_⟩
    · exact k_H1.free0 nC
    · exact ((S3.mut pa).mut ca).mono (by omega)
    · exact (upd_ne cp.symm).trans upd_same
    · rw [List.length_eraseIdx_of_lt hj, ll]
      omega
    · rw [List.length_append, yl]
      rfl
    · rw [List.append_assoc]
      refine List.Perm.trans (List.Perm.append_left ys ?_) pm
      exact erase_perm ls j evj
  · rintro H2 ⟨k2, S2, cp, ls, ys, hp, hC, ll, yl, pm⟩
    walk_at "go"
    have e0 : ls = [] := List.eq_nil_of_length_eq_zero (by omega)
    rw [e0, List.append_nil] at pm
    exact q _ C ys k2 (k_H1.free0 nC) (S1.ne nC) (S2.mono (by omega)) hC pm
/-! words that do not clash -/
def okW (s : Str) : Prop := 1 ≤ s.length ∧ s.length ≤ 12 ∧ ∀ c ∈ tl s, 97 ≤ c ∧ c ≤ 122
def okX (s : Str) : Prop := s.length ≤ 1000 ∧ ∀ c ∈ tl s, 97 ≤ c ∧ c ≤ 122
def fits (x o : Str) : Bool := !(Txt.startswith o x || Txt.startswith x o)
def apart (ts : List Str) : List Str := ts.foldl (fun f x => if f.all (fits x) = true then f ++ [x] else f) []
theorem apart_step (f : List Str) (x : Str) : (∀ w ∈ (if f.all (fits x) = true then f ++ [x] else f), w ∈ f ∨ w = x) := by
  intro w h
  split at h
  · simpa using h
  · exact .inl h
def sp__law_apart (K : PySem.W.Frag) : Sp := fun vs H Q _ => ∃ (b : Addr) (ts : List Str), vs = [.ref b] ∧ SqL K H b (ts.map V.str) ∧ ts.length ≤ 2000 ∧
  ∀ H' p, Kp [] H H' → H p = none → H' p = some (.lst ((apart ts).map V.str)) → Q (.ref p) H'
theorem apart_len (ts : List Str) : (apart ts).length ≤ ts.length := by
  have key : ∀ (ts f : List Str), (ts.foldl (fun f x => if f.all (fits x) = true then f ++ [x] else f) f).length ≤ f.length + ts.length := by
    intro ts
    induction ts with
    | nil => intro f; simp
    | cons t ts ih =>
      intro f
      rw [List.foldl_cons]
      refine Nat.le_trans (ih _) ?_
      split
      · simp only [List.length_append, List.length_cons, List.length_nil]; omega
      · simp only [List.length_cons]; omega
  have := key ts []
  rw [List.length_nil, Nat.zero_add] at this
  exact this
theorem ok__law_apart (n : Nm mg)  {f : Addr} {fd : FuncData} (F : Fun K "_law_apart" "_law_apart" s__law_apart f fd) :
    GFn P w K mg base CX0 1 f fd ["terms"] (sp__law_apart K) := by
  refine GFn.mk' F sc__law_apart (fun vs H Q E h => ?_) (fun cdv A outer s H vs Q E gd hr h => ?_)
  · obtain ⟨b, ts, rfl, _⟩ := h
    rfl
  obtain ⟨b, ts, rfl, hb, hl, q⟩ := h
  refine ⟨_, (pss_cons (ps_set (i := 1) sc__law_apart.nd rfl (.inl rfl) (pe_lst pa_nil))
      (pss_cons (ps_for PassesOwn.never rfl (kpi_u (K := K) rfl (pv 0)) (pg_name (i := 2) sc__law_apart.nd rfl (.inr rfl))
      (pss_one (ps_if (pt_cmpR (kou_eq (K := K) rfl hr.units) (pe_lc (own := [("one", 3)]) rfl sc__law_apart.nd (kpi_u (K := K) rfl (pv 1)) (blkOk_by (own := [("one", 3)]) (N := N__law_apart) (sc := defScope s__law_apart) (by decide +kernel)) (fun _ _ _ _ _ => (pg_name (i := 3) sc__law_apart.nd rfl (.inl rfl))) (fun _ _ _ _ _ => (pts_one (PW.pt (pw_or (kpt_u (K := K) rfl (pe_m1 PySem.F.slot_str_startswith PySem.F.type_str_startswith mt_startswith (pv 3) (pv 2)) (by intro _; rfl)) (pw_or1 (kpt_u (K := K) rfl (pe_m1 PySem.F.slot_str_startswith PySem.F.type_str_startswith mt_startswith (pv 2) (pv 3)) (by intro _; rfl))))))) (fun _ _ _ _ _ => pe_int)) (pe_lst pa_nil) (nomark _))
      (pss_one (ps_expr (kpe_bm (K := K) rfl PySem.F.plainAttrs_list PySem.F.slot_list_append PySem.F.type_list_append mt_append (pv 1) (pa_cons (pv 2) pa_nil))))
      pss_nil)))
      (pss_one (ps_ret (pv 1))))), ?_⟩
  walk_at "go"
  intro p n_p
  generalize g_H1 : upd _ p _ = H1
  obtain ⟨k_H1, e_p⟩ := al_of n_p g_H1
  clear g_H1
  walk_at "go"
  refine fo_l (k_H1.same.seq hb) (fun i σ H' => ∃ (y2 y3 : Option V), σ = [some (.ref b), some (.ref p), y2, y3] ∧ Kp [] H H' ∧ H' p = some (.lst ((apart (ts.take i)).map V.str)))
    ⟨_, _, rfl, k_H1, e_p⟩ (fun i σ H' h => by obtain ⟨_, _, _, k, _⟩ := h; exact k.same.seq hb) ?_ ?_
  · rintro i x σ H2 ex ⟨y2, y3, rfl, k2, hp⟩
    rw [List.getElem?_map] at ex
    obtain ⟨u, eu, rfl⟩ := Option.map_eq_some_iff.mp ex
    have hi := (List.getElem?_eq_some_iff.mp eu).1
    have es : apart (ts.take (i + 1)) = if (apart (ts.take i)).all (fits u) = true then apart (ts.take i) ++ [u] else apart (ts.take i) := by
      rw [List.take_add_one, eu]
      unfold apart
      rw [List.foldl_append]
      rfl
    have al := apart_len (ts.take i)
    rw [List.length_take] at al
    generalize apart (ts.take i) = f at *
    walk_at "go"
    refine co_lF V.str (fun o => Txt.startswith o u || Txt.startswith u o) (fun _ => V.int 1) (SqL.of hp) (sz100k (by omega)) (fun o ho C acc P H' k h hl r => ?_) (fun C H3 nC k3 hC => ?_)
    · walk_at "go"
      refine ⟨rfl, ?_⟩
      walk_at "go"
      have rr := r _ Kp.refl
      refine ite2 (fun c => ?_) (fun c => ?_)
      · rw [c] at rr
        walk_at "go"
        exact ⟨_, h, hl, rr⟩
      · rw [Bool.not_eq_true] at c
        rw [c] at rr
        walk_at "go"
        refine ite2 (fun c2 => ?_) (fun c2 => ?_)
        · rw [c2] at rr
          walk_at "go"
          exact ⟨_, h, hl, rr⟩
        · rw [Bool.not_eq_true] at c2
          rw [c2] at rr
          walk_at "go"
          exact rr
    · walk_at "go"
      intro p4 n_p4
      generalize g_H4 : upd _ p4 _ = H4
      obtain ⟨k_H4, e_p4⟩ := al_of n_p4 g_H4
      clear g_H4
      refine u_eqN (ds := (f.filter fun o => Txt.startswith o u || Txt.startswith u o).map fun _ => PyData.int 1) (k_H4.get0 hC) e_p4 (dp_map _ _ _ fun _ _ => .int 1)
        (shaped_map _ _ fun _ _ => ⟨by rw [PyData.canLay0], by simp [PyData.depth]⟩) ?_
      have k4 := (k2.call0 k3).call0 k_H4
      have p4' := k_H4.get0 (k3.get0 hp)
      walk_at "go"
      rw [isEmpty_filter]
      refine ite2 (fun c => ?_) (fun c => ?_)
      · walk_at "go"
        refine ty_l p4' ?_
        walk_at "go"
        refine u_app p4' (by rw [sizeLine_eq, List.length_map]; omega) ?_
        walk_at "go"
        refine ⟨_, _, rfl, k4.mutN n_p, ?_⟩
        rw [upd_same, es, if_pos (by exact c), List.map_append]
        rfl
      · walk_at "go"
        refine ⟨_, _, rfl, k4, ?_⟩
        rw [es, if_neg (by exact c)]
        exact p4'
  · rintro σ H2 ⟨y2, y3, rfl, k2, hp⟩
    walk_at "go"
    rw [List.length_map, List.take_length] at hp
    exact q _ p k2 n_p hp
end
end My
open PySem PySem.Spec PyProof.Rows L2 Gd

namespace My
section
variable {P : Program} {w : World} {K : PySem.W.Frag} {mg : Str → Option Value} {base : Heap}
structure Bk (ws : List Str) (n : Nat) : Prop where
  len : ws.length ≤ n
  ok : ∀ w ∈ ws, okW w
  ap : ws.Pairwise fun o x => fits x o = true
theorem apart_ok (ts : List Str) : (∀ w ∈ apart ts, w ∈ ts) ∧ (apart ts).Pairwise fun o x => fits x o = true := by
  have key : ∀ (ts f : List Str), f.Pairwise (fun o x => fits x o = true) → (∀ w ∈ ts.foldl (fun f x => if f.all (fits x) = true then f ++ [x] else f) f, w ∈ f ∨ w ∈ ts) ∧
      (ts.foldl (fun f x => if f.all (fits x) = true then f ++ [x] else f) f).Pairwise fun o x => fits x o = true := by
    intro ts
    induction ts with
    | nil => exact fun f hf => ⟨fun w h => .inl h, hf⟩
    | cons t ts ih =>
      intro f hf
      rw [List.foldl_cons]
      by_cases c : f.all (fits t) = true
      · rw [if_pos c]
        obtain ⟨h1, h2⟩ := ih (f ++ [t]) (by
          rw [List.pairwise_append]
          refine ⟨hf, List.pairwise_singleton _ _, fun o ho x hx => ?_⟩
          rw [List.mem_singleton.mp hx]
          exact List.all_eq_true.mp c o ho)
        refine ⟨fun w h => ?_, h2⟩
        rcases h1 w h with h | h
        · rcases List.mem_append.mp h with h | h
          · exact .inl h
          · rw [List.mem_singleton.mp h]; simp
        · simp [h]
      · rw [if_neg c]
        obtain ⟨h1, h2⟩ := ih f hf
        refine ⟨fun w h => ?_, h2⟩
        rcases h1 w h with h | h
        · exact .inl h
        · simp [h]
  obtain ⟨h1, h2⟩ := key ts [] .nil
  exact ⟨fun w h => by simpa using h1 w h, h2⟩
theorem bk_apart {ts : List Str} {n : Nat} (hl : ts.length ≤ n) (ok : ∀ w ∈ ts, okW w) : Bk (apart ts) n :=
  ⟨Nat.le_trans (apart_len ts) hl, fun w h => ok w ((apart_ok ts).1 w h), (apart_ok ts).2⟩
theorem Bk.perm {ws us : List Str} {n : Nat} (B : Bk ws n) (p : us.Perm ws) : Bk us n :=
  ⟨by rw [p.length_eq]; exact B.len, fun w h => B.ok w (p.mem_iff.mp h), (List.Perm.pairwise_iff (fun {x y} h => by
    simp only [fits, Bool.not_eq_true', Bool.or_eq_false_iff] at h ⊢
    exact ⟨h.2, h.1⟩) p).mpr B.ap⟩
def unS : V → Str
  | .str s => s
  | _ => Str.empty
theorem perm_strs {ys : List V} {ws : List Str} (p : ys.Perm (ws.map V.str)) : ∃ us : List Str, ys = us.map V.str ∧ us.Perm ws := by
  refine ⟨ys.map unS, ?_, ?_⟩
  · have hv : ∀ y ∈ ys, ∃ s, y = V.str s := fun y hy => by
      obtain ⟨s, _, e⟩ := List.mem_map.mp (p.mem_iff.mp hy)
      exact ⟨s, e.symm⟩
    clear p
    induction ys with
    | nil => rfl
    | cons y ys ih =>
      obtain ⟨s, rfl⟩ := hv y (by simp)
      rw [List.map_cons, List.map_cons, ← ih fun z hz => hv z (by simp [hz])]
      rfl
  · have := p.map unS
    rw [List.map_map] at this
    simpa [Function.comp_def, unS] using this
def sp__law_words (K : PySem.W.Frag) : Sp := fun vs H Q _ => ∃ (a b : Addr) (n : Nat) (ns : List Int), vs = [.ref a, .ref b] ∧ Src H a n ∧ n < 2 ^ 40 ∧ (∀ H', Kp [a] H H' → SqL K H' b (ns.map V.int)) ∧
  ∀ H' p ws, Kp [a] H H' → H p = none → p ≠ a → Src H' a (n + 5000) → H' p = some (.lst (ws.map V.str)) → Bk ws 120 → Q (.ref p) H'
theorem ok__law_words (n : Nm mg) (c__law_apart : GC P w K mg base 1 "_law_apart" (sp__law_apart K)) (c__law_draw : GC P w K mg base 1 "_law_draw" (sp__law_draw K)) (c__law_mixed : GC P w K mg base 2 "_law_mixed" (sp__law_mixed K)) (c__law_spelled : GC P w K mg base 2 "_law_spelled" (sp__law_spelled K)) {f : Addr} {fd : FuncData} (F : Fun K "_law_words" "_law_words" s__law_words f fd) :
    GFn P w K mg base CX0 3 f fd ["pool", "script"] (sp__law_words K) := by
  have n_len := n.len_
  have n_min := n.min_
  have n_range := n.range_
  refine GFn.mk' F sc__law_words (fun vs H Q E h => ?_) (fun cdv A outer s H vs Q E gd hr h => ?_)
  · obtain ⟨a, b, n, ns, rfl, _⟩ := h
    rfl
  obtain ⟨a, b, n', ns, rfl, hS, hn, hb, q⟩ := h
  refine ⟨_, (pss_cons (ps_par3 (i := 2) (j := 3) (k := 4) rfl sc__law_words.nd rfl rfl rfl (by decide) (by decide) (by decide) rfl rfl rfl (pa_cons (pe_gc c__law_draw gd hr (by decide) (by rfl) (pa_cons (pv 0) (pa_cons pe_int pa_nil))) (pa_cons (pe_lst pa_nil) (pa_cons (pe_ix (kix_seq (K := K) rfl) (pe_lst (pa_cons pe_int (pa_cons pe_int (pa_cons pe_int pa_nil)))) (pe_gc c__law_draw gd hr (by decide) (by rfl) (pa_cons (pv 0) (pa_cons pe_int pa_nil))) (fun _ _ => rfl)) pa_nil))) (by rfl))
      (pss_cons (ps_asg (pe_tup (pa_cons (pe_ix (kix_seq (K := K) rfl) (pe_lst (pa_cons pe_str (pa_cons pe_str (pa_cons pe_str pa_nil)))) (pe_gc c__law_draw gd hr (by decide) (by rfl) (pa_cons (pv 0) (pa_cons pe_int pa_nil))) (fun _ _ => rfl)) (pa_cons (pe_op (kou_add (K := K) rfl) pe_int (pe_gc c__law_draw gd hr (by decide) (by rfl) (pa_cons (pv 0) (pa_cons pe_int pa_nil)))) pa_nil))) (kpg_tup (K := K) (n := 2) rfl rfl (pgs_cons (pg_name (i := 5) sc__law_words.nd rfl (.inr rfl)) (pgs_cons (pg_name (i := 6) sc__law_words.nd rfl (.inr rfl)) pgs_nil))))
      (pss_cons (ps_if (pt_cmpR (kou_eq (K := K) rfl hr.units) (pv 1) (pe_lst pa_nil) (nomark _))
      (pss_one (ps_ret (pe_gc c__law_apart gd hr (by decide) (by rfl) (pa_cons (pe_lc (own := [("k", 9)]) rfl sc__law_words.nd (pi_range1 (by rfl) n_range (pa_cons pe_int pa_nil)) (blkOk_by (own := [("k", 9)]) (N := N__law_words) (sc := defScope s__law_words) (by decide +kernel)) (fun _ _ _ _ _ => (pg_name (i := 9) sc__law_words.nd rfl (.inl rfl))) (fun _ _ _ _ _ => pts_nil) (fun _ _ _ _ _ => (pe_gc c__law_spelled gd hr (by decide) (by rfl) (pa_cons (pv 0) (pa_cons pe_str (pa_cons (pe_op (kou_add (K := K) rfl) pe_int (pe_gc c__law_draw gd hr (by decide) (by rfl) (pa_cons (pv 0) (pa_cons pe_int pa_nil)))) pa_nil)))))) pa_nil))))
      pss_nil)
      (pss_cut (ps_if (pt_cmpR (kou_eq (K := K) rfl hr.units) (pv 2) pe_int (nomark _))
      (pss_one (ps_setLc (i := 3) (own := [("k", 9)]) rfl sc__law_words.nd rfl rfl (sw_true rfl rfl rfl (by decide +kernel)) (pi_range1 (by rfl) n_range (pa_cons (pe_callB (call_min2 rfl) (by rfl) n_min (by decide +kernel) (pa_cons (pv 4) (pa_cons pe_int pa_nil))) pa_nil)) (blkOk_by (own := [("k", 9)]) (N := N__law_words) (sc := defScope s__law_words) (by decide +kernel)) (fun _ _ _ _ _ => (pg_name (i := 9) sc__law_words.nd rfl (.inl rfl))) (fun _ _ _ _ _ => pts_nil) (fun _ _ _ _ _ => (pe_gc c__law_spelled gd hr (by decide) (by rfl) (pa_cons (pv 0) (pa_cons (pv 5) (pa_cons (pe_op (kou_add (K := K) rfl) pe_int (pe_gc c__law_draw gd hr (by decide) (by rfl) (pa_cons (pv 0) (pa_cons (pv 6) pa_nil)))) pa_nil)))))))
      pss_nil)
      (pss_cut (ps_if (pt_cmpR (kou_eq (K := K) rfl hr.units) (pv 2) pe_int (nomark _))
      (pss_one (ps_setLc (i := 3) (own := [("k", 9)]) rfl sc__law_words.nd rfl rfl (sw_true rfl rfl rfl (by decide +kernel)) (pi_range1 (by rfl) n_range (pa_cons (pe_callB (call_min2 rfl) (by rfl) n_min (by decide +kernel) (pa_cons (pv 4) (pa_cons pe_int pa_nil))) pa_nil)) (blkOk_by (own := [("k", 9)]) (N := N__law_words) (sc := defScope s__law_words) (by decide +kernel)) (fun _ _ _ _ _ => (pg_name (i := 9) sc__law_words.nd rfl (.inl rfl))) (fun _ _ _ _ _ => pts_nil) (fun _ _ _ _ _ => (pe_gc c__law_spelled gd hr (by decide) (by rfl) (pa_cons (pv 0) (pa_cons (pv 5) (pa_cons (pv 6) pa_nil)))))))
      pss_nil)
      (pss_cut (ps_if (pt_cmpR (kou_eq (K := K) rfl hr.units) (pv 2) pe_int (nomark _))
      (pss_cons (ps_asg (pe_tup (pa_cons (pe_gc c__law_spelled gd hr (by decide) (by rfl) (pa_cons (pv 0) (pa_cons (pv 5) (pa_cons (pe_gc c__law_draw gd hr (by decide) (by rfl) (pa_cons (pv 0) (pa_cons pe_int pa_nil))) pa_nil)))) (pa_cons (pe_gc c__law_spelled gd hr (by decide) (by rfl) (pa_cons (pv 0) (pa_cons (pv 5) (pa_cons (pe_gc c__law_draw gd hr (by decide) (by rfl) (pa_cons (pv 0) (pa_cons pe_int pa_nil))) pa_nil)))) pa_nil))) (kpg_tup (K := K) (n := 2) rfl rfl (pgs_cons (pg_name (i := 7) sc__law_words.nd rfl (.inr rfl)) (pgs_cons (pg_name (i := 8) sc__law_words.nd rfl (.inr rfl)) pgs_nil))))
        (pss_one (ps_setLc (i := 3) (own := [("k", 9)]) rfl sc__law_words.nd rfl rfl (sw_true rfl rfl rfl (by decide +kernel)) (pi_range1 (by rfl) n_range (pa_cons (pv 4) pa_nil)) (blkOk_by (own := [("k", 9)]) (N := N__law_words) (sc := defScope s__law_words) (by decide +kernel)) (fun _ _ _ _ _ => (pg_name (i := 9) sc__law_words.nd rfl (.inl rfl))) (fun _ _ _ _ _ => pts_nil) (fun _ _ _ _ _ => (pe_op (kou_add (K := K) rfl) (pe_op (kou_add (K := K) rfl) (pe_op (kou_add (K := K) rfl) (pv 7) (pe_ix (kix_seq (K := K) rfl) pe_str (pe_op ou_div (pv 9) pe_int) (fun _ _ => rfl))) (pe_ix (kix_seq (K := K) rfl) pe_str (pe_op ou_mod (pv 9) pe_int) (fun _ _ => rfl))) (pv 8))))))
      pss_nil)
      (pss_cut (ps_if (pt_cmpR (kou_eq (K := K) rfl hr.units) (pv 2) pe_int (nomark _))
      (pss_one (ps_setLc (i := 3) (own := [("k", 9)]) rfl sc__law_words.nd rfl rfl (sw_true rfl rfl rfl (by decide +kernel)) (pi_range1 (by rfl) n_range (pa_cons (pv 6) pa_nil)) (blkOk_by (own := [("k", 9)]) (N := N__law_words) (sc := defScope s__law_words) (by decide +kernel)) (fun _ _ _ _ _ => (pg_name (i := 9) sc__law_words.nd rfl (.inl rfl))) (fun _ _ _ _ _ => pts_nil) (fun _ _ _ _ _ => (pe_op (kou_add (K := K) rfl) (pe_op ou_mul pe_str (pv 9)) (pe_op ou_mul (pe_ix (kix_seq (K := K) rfl) (pv 5) (pe_gc c__law_draw gd hr (by decide) (by rfl) (pa_cons (pv 0) (pa_cons (pe_callB (kcu_len (K := K) rfl) (by rfl) n_len (by decide +kernel) (pa_cons (pv 5) pa_nil)) pa_nil))) (fun _ _ => rfl)) (pe_op (kou_add (K := K) rfl) pe_int (pe_gc c__law_draw gd hr (by decide) (by rfl) (pa_cons (pv 0) (pa_cons (pe_op ou_sub pe_int (pv 9)) pa_nil)))))))))
      pss_nil)
      (pss_one (ps_ret (pe_gc c__law_mixed gd hr (by decide) (by rfl) (pa_cons (pv 0) (pa_cons (pe_gc c__law_apart gd hr (by decide) (by rfl) (pa_cons (pv 3) pa_nil)) pa_nil)))))))))))), ?_⟩
  walk_at "go"
  refine ⟨a, n', 4, rfl, hS, by omega, by decide, by decide, fun H1 style k1 S1 s0 s1 => ?_⟩
  walk_at "go"
  intro p2 n_p2
  generalize g_H2 : upd _ p2 _ = H2
  obtain ⟨k_H2, e_p2⟩ := al_of n_p2 g_H2
  clear g_H2
  have S2 := S1.kp k_H2
  have pa2 := S1.ne n_p2
  walk_at "go"
  intro p3 n_p3
  generalize g_H3 : upd _ p3 _ = H3
  obtain ⟨k_H3, e_p3⟩ := al_of n_p3 g_H3
  clear g_H3
  have S3 := S2.kp k_H3
  have pa3 := S2.ne n_p3
  walk_at "go"
  refine ⟨a, _, 3, rfl, S3, by omega, by decide, by decide, fun H4 d4 k4 S4 d40 d41 => ?_⟩
  walk_at "go"
  obtain ⟨v, ev, mv⟩ := atI_lt (xs := [V.int 6, V.int 20, V.int 120]) d40 d41
  refine u_ixL (SqL.of (k4.get1 e_p3 pa3)) ev ?_
  have hv : ∃ z, v = .int z ∧ 0 ≤ z ∧ z ≤ 120 := by
    simp only [List.mem_cons, List.not_mem_nil, or_false] at mv
    rcases mv with rfl | rfl | rfl
    · exact ⟨_, rfl, by omega, by omega⟩
    · exact ⟨_, rfl, by omega, by omega⟩
    · exact ⟨_, rfl, by omega, by omega⟩
  obtain ⟨many, rfl, hz0, hz1⟩ := hv
  have K4 : Kp [a] H H4 := ((k1.call0 k_H2).call0 k_H3).call1 k4 (by simp)
  have f4 := k4.get1 (k_H3.get0 e_p2) pa2
  walk_at "go"
  intro p5 n_p5
  generalize g_H5 : upd _ p5 _ = H5
  obtain ⟨k_H5, e_p5⟩ := al_of n_p5 g_H5
  clear g_H5
  have S5 := S4.kp k_H5
  have pa5 := S4.ne n_p5
  walk_at "go"
  refine ⟨a, _, 3, rfl, S5, by omega, by decide, by decide, fun H6 d6 k6 S6 d60 d61 => ?_⟩
  walk_at "go"
  obtain ⟨v, ev, mv⟩ := atI_lt (xs := [V.str "ab", V.str "abc", V.str "qrstuvwxyz"]) d60 d61
  refine u_ixL (SqL.of (k6.get1 e_p5 pa5)) ev ?_
  have hv : ∃ L : Str, v = .str L ∧ 0 < L.length ∧ L.length ≤ 1000 ∧ ∀ c ∈ tl L, 97 ≤ c ∧ c ≤ 122 := by
    simp only [List.mem_cons, List.not_mem_nil, or_false] at mv
    rcases mv with rfl | rfl | rfl
    · exact ⟨_, rfl, by decide +kernel⟩
    · exact ⟨_, rfl, by decide +kernel⟩
    · exact ⟨_, rfl, by decide +kernel⟩
  obtain ⟨L, rfl, hL0, hL1, hLc⟩ := hv
  walk_at "go"
  refine ⟨a, _, 12, rfl, S6, by omega, by decide, by decide, fun H7 d7 k7 S7 d70 d71 => ?_⟩
  walk_at "go"
  have K7 : Kp [a] H H7 := ((K4.call0 k_H5).call1 k6 (by simp)).call1 k7 (by simp)
  have f7 := k7.get1 (k6.get1 (k_H5.get0 f4) pa2) pa2
  intro p8 n_p8
  generalize g_H8 : upd _ p8 _ = H8
  obtain ⟨k_H8, e_p8⟩ := al_of n_p8 g_H8
  clear g_H8
  walk_at "go"
  intro p9 n_p9
  generalize g_H9 : upd _ p9 _ = H9
  obtain ⟨k_H9, e_p9⟩ := al_of n_p9 g_H9
  clear g_H9
  have S9 := (S7.kp k_H8).kp k_H9
  have K9 : Kp [a] H H9 := (K7.call0 k_H8).call0 k_H9
  have f9 := k_H9.get0 (k_H8.get0 f7)
  refine u_eqQ (hb H9 K9) e_p9 (dp_ints ns) (shaped_ints ns) ?_
  clear k1 k4 k6 k7 S1 S2 S3 S4 S5 S6 S7 k_H2 k_H3 k_H5 k_H8 k_H9 f4 f7 ev mv e_p3 e_p5 e_p8 e_p9 K4 K7
  have hLk : ∀ {z : Str}, (∀ c ∈ tl z, c ∈ tl L) → ∀ c ∈ tl z, 97 ≤ c ∧ c ≤ 122 := fun h c hc => hLc c (h c hc)
  walk_at "go"
  refine ite2 (fun c => ?_) (fun c => ?_)
  · walk_at "go"
    refine co_1 (by omega) (by omega) fun C nC => ⟨fun i H' => Kp [a] H9 H' ∧ Src H' a (n' + 5 + 20 * i) ∧ ∃ ts : List Str, H' C = some (.lst (ts.map V.str)) ∧ ts.length = i ∧ ∀ w ∈ ts, okW w,
      ⟨Kp.refl.new nC, (S9.new nC).mono (by omega), [], upd_same, rfl, by simp⟩, ?_, ?_⟩
    · rintro i Hi hi ⟨ki, Si, ts, hC, tl_, tm⟩
      have ca : C ≠ a := S9.ne nC
      have hi2 : i < 5 := by omega
      walk_at "go"
      refine ⟨rfl, ?_⟩
      walk_at "go"
      refine ⟨a, _, 3, rfl, Si, by omega, by decide, by decide, fun Hd e kd Sd e0 e1 => ?_⟩
      walk_at "go"
      refine ⟨a, _, (1 + e).toNat, "ab", by rw [Int.toNat_of_nonneg (by omega)]; rfl, Sd, by omega, by decide, by decide, by omega, fun Hw z kw Sw zl zc => ?_⟩
      refine ⟨_, kw.get1 (kd.get1 hC ca) ca, by rw [sizeLine_eq, List.length_map]; omega, ((ki.call1 kd (by simp)).call1 kw (by simp)).mutN nC, (Sw.mut ca).mono (by omega), ts ++ [z], ?_, by simp [tl_], fun x hx => ?_⟩
      · rw [upd_same, List.map_append]
        rfl
      · rcases List.mem_append.mp hx with h | h
        · exact tm x h
        · rw [List.mem_singleton.mp h]
          exact ⟨by omega, by omega, fun c hc => (show ∀ c ∈ tl ("ab" : Str), 97 ≤ c ∧ c ≤ 122 by decide +kernel) c (zc c hc)⟩
    · rintro Hc ⟨kc, Sc, ts, hC, tl_, tm⟩
      walk_at "go"
      refine ⟨C, ts, rfl, SqL.of hC, by omega, fun Hp p kp np hp => ?_⟩
      walk_at "go"
      exact q _ p _ ((K9.call1 kc (by simp)).call0 kp) (Sc.free (K9.call1 kc (by simp)) np) (Sc.ne np) ((Sc.kp kp).mono (by omega)) hp (bk_apart (by omega) tm)
  · walk_at "go"
    refine rd_cut (fun σ H' => ∃ (f : Addr) (ts : List Str) (y7 y8 y9 : Option V), σ = [some (.ref a), some (.ref b), some (.int style), some (.ref f), some (.int many), some (.str L), some (.int (1 + d7)), y7, y8, y9] ∧ Kp [a] H9 H' ∧ Src H' a (n' + 1000) ∧ H' f = some (.lst (ts.map V.str)) ∧ f ≠ a ∧ ts.length ≤ 120 ∧ ∀ w ∈ ts, okW w) ?_ ?_
    · walk_at "go"
      refine ite2 (fun c0 => ?_) (fun c0 => ?_)
      · walk_at "go"
        generalize hm : (if (40 : Int) < many then (40 : Int) else many) = m
        have hm2 : 0 ≤ m ∧ m ≤ 40 := by rw [← hm]; split <;> omega
        clear hm
        refine co_1 (by omega) (by omega) fun C nC => ⟨fun i H' => Kp [a] H9 H' ∧ Src H' a (n' + 5 + 20 * i) ∧ ∃ ts : List Str, H' C = some (.lst (ts.map V.str)) ∧ ts.length = i ∧ ∀ w ∈ ts, okW w,
          ⟨Kp.refl.new nC, (S9.new nC).mono (by omega), [], upd_same, rfl, by simp⟩, ?_, ?_⟩
        · rintro i Hi hi ⟨ki, Si, ts, hC, tl_, tm⟩
          have ca : C ≠ a := S9.ne nC
          have hi2 : i < 40 := by omega
          walk_at "go"
          refine ⟨rfl, ?_⟩
          walk_at "go"
          refine ⟨a, _, 1 + d7, rfl, Si, by omega, by omega, log_small (by omega), fun Hd e kd Sd e0 e1 => ?_⟩
          walk_at "go"
          refine ⟨a, _, (1 + e).toNat, L, by rw [Int.toNat_of_nonneg (by omega)]; rfl, Sd, by omega, hL0, hL1, by omega, fun Hw z kw Sw zl zc => ?_⟩
          refine ⟨_, kw.get1 (kd.get1 hC ca) ca, by rw [sizeLine_eq, List.length_map]; omega, ((ki.call1 kd (by simp)).call1 kw (by simp)).mutN nC, (Sw.mut ca).mono (by omega), ts ++ [z], ?_, by simp [tl_], fun x hx => ?_⟩
          · rw [upd_same, List.map_append]
            rfl
          · rcases List.mem_append.mp hx with h | h
            · exact tm x h
            · rw [List.mem_singleton.mp h]
              exact ⟨by omega, by omega, hLk zc⟩
        · rintro Hc ⟨kc, Sc, ts, hC, tl_, tm⟩
          walk_at "go"
          exact ⟨C, ts, _, _, _, rfl, kc, Sc.mono (by omega), hC, S9.ne nC, by omega, tm⟩
      · walk_at "go"
        exact ⟨p2, [], _, _, _, rfl, Kp.refl, S9.mono (by omega), f9, pa2, by simp, by simp⟩
    · rintro σ Ha ⟨f, ts0, y7, y8, y9, rfl, ka, Sa, hf, fa, fl, fm⟩
      refine rd_cut (fun σ H' => ∃ (f : Addr) (ts : List Str) (y7 y8 y9 : Option V), σ = [some (.ref a), some (.ref b), some (.int style), some (.ref f), some (.int many), some (.str L), some (.int (1 + d7)), y7, y8, y9] ∧ Kp [a] H9 H' ∧ Src H' a (n' + 2500) ∧ H' f = some (.lst (ts.map V.str)) ∧ f ≠ a ∧ ts.length ≤ 120 ∧ ∀ w ∈ ts, okW w) ?_ ?_
      · walk_at "go"
        refine ite2 (fun c1 => ?_) (fun c1 => ?_)
        · walk_at "go"
          generalize hm : (if (60 : Int) < many then (60 : Int) else many) = m
          have hm2 : 0 ≤ m ∧ m ≤ 60 := by rw [← hm]; split <;> omega
          clear hm
          refine co_1 (by omega) (by omega) fun C nC => ⟨fun i H' => Kp [a] Ha H' ∧ Src H' a (n' + 1000 + 20 * i) ∧ ∃ ts : List Str, H' C = some (.lst (ts.map V.str)) ∧ ts.length = i ∧ ∀ w ∈ ts, okW w,
            ⟨Kp.refl.new nC, (Sa.new nC).mono (by omega), [], upd_same, rfl, by simp⟩, ?_, ?_⟩
          · rintro i Hi hi ⟨ki, Si, ts, hC, tl_, tm⟩
            have ca : C ≠ a := Sa.ne nC
            have hi2 : i < 60 := by omega
            walk_at "go"
            refine ⟨rfl, ?_⟩
            walk_at "go"
            refine ⟨a, _, (1 + d7).toNat, L, by rw [Int.toNat_of_nonneg (by omega)]; rfl, Si, by omega, hL0, hL1, by omega, fun Hw z kw Sw zl zc => ?_⟩
            refine ⟨_, kw.get1 hC ca, by rw [sizeLine_eq, List.length_map]; omega, (ki.call1 kw (by simp)).mutN nC, (Sw.mut ca).mono (by omega), ts ++ [z], ?_, by simp [tl_], fun x hx => ?_⟩
            · rw [upd_same, List.map_append]
              rfl
            · rcases List.mem_append.mp hx with h | h
              · exact tm x h
              · rw [List.mem_singleton.mp h]
                exact ⟨by omega, by omega, hLk zc⟩
          · rintro Hc ⟨kc, Sc, ts, hC, tl_, tm⟩
            walk_at "go"
            exact ⟨C, ts, _, _, _, rfl, ka.call1 kc (by simp), Sc.mono (by omega), hC, Sa.ne nC, by omega, tm⟩
        · walk_at "go"
          exact ⟨f, ts0, _, _, _, rfl, ka, Sa.mono (by omega), hf, fa, fl, fm⟩
      · clear ka Sa hf fa fl fm
        rintro σ Hb ⟨f, ts1, y7, y8, y9, rfl, kb, Sb, hf, fa, fl, fm⟩
        refine rd_cut (fun σ H' => ∃ (f : Addr) (ts : List Str) (y7 y8 y9 : Option V), σ = [some (.ref a), some (.ref b), some (.int style), some (.ref f), some (.int many), some (.str L), some (.int (1 + d7)), y7, y8, y9] ∧ Kp [a] H9 H' ∧ Src H' a (n' + 2900) ∧ H' f = some (.lst (ts.map V.str)) ∧ f ≠ a ∧ ts.length ≤ 120 ∧ ∀ w ∈ ts, okW w) ?_ ?_
        · walk_at "go"
          refine ite2 (fun c2 => ?_) (fun c2 => ?_)
          · walk_at "go"
            refine ⟨a, _, 9, rfl, Sb, by omega, by decide, by decide, fun Hd e kd Sd e0 e1 => ?_⟩
            walk_at "go"
            refine ⟨a, _, e.toNat, L, by rw [Int.toNat_of_nonneg e0]; rfl, Sd, by omega, hL0, hL1, by omega, fun He head ke Se hl hc => ?_⟩
            walk_at "go"
            refine ⟨a, _, 2, rfl, Se, by omega, by decide, by decide, fun Hf g kf Sf g0 g1 => ?_⟩
            walk_at "go"
            refine ⟨a, _, g.toNat, L, by rw [Int.toNat_of_nonneg g0]; rfl, Sf, by omega, hL0, hL1, by omega, fun Hg tail kg Sg tl1 tc => ?_⟩
            walk_at "go"
            intro pt n_pt
            generalize g_Ht : upd _ pt _ = Ht
            obtain ⟨k_Ht, e_pt⟩ := al_of n_pt g_Ht
            clear g_Ht
            walk_at "go"
            refine co_1 (by omega) (by omega) fun C nC => ⟨fun i H' => Kp [a] Ht H' ∧ Src H' a (n' + 2590 + 2 * i) ∧ ∃ ts : List Str, H' C = some (.lst (ts.map V.str)) ∧ ts.length = i ∧ ∀ w ∈ ts, okW w,
              ⟨Kp.refl.new nC, ((Sg.kp k_Ht).new nC).mono (by omega), [], upd_same, rfl, by simp⟩, ?_, ?_⟩
            · rintro i Hi hi ⟨ki, Si, ts, hC, tl_, tm⟩
              have ca : C ≠ a := (Sg.kp k_Ht).ne nC
              have hi2 : i < 120 := by omega
              walk_at "go"
              refine ⟨rfl, ?_⟩
              walk_at "go"
              refine u_ixSC (n := 10) (m := 123) (by omega) (by omega) (by decide +kernel) (by rw [sizeLine_eq]; decide +kernel) (by decide +kernel) fun c1 hc1 _ => ?_
              have z1 : head.length + (⟨#[c1]⟩ : Str).length ≤ sizeLine := by rw [sizeLine_eq, len_one]; omega
              refine u_addS z1 ?_
              walk_at "go"
              refine u_ixSC (n := 12) (m := 123) (by omega) (by omega) (by decide +kernel) (by rw [sizeLine_eq]; decide +kernel) (by decide +kernel) fun c2 hc2 _ => ?_
              have z2 : (head ++ ⟨#[c1]⟩).length + (⟨#[c2]⟩ : Str).length ≤ sizeLine := by rw [sizeLine_eq, len_app, len_one, len_one]; omega
              refine u_addS z2 ?_
              walk_at "go"
              have z3 : (head ++ ⟨#[c1]⟩ ++ ⟨#[c2]⟩).length + tail.length ≤ sizeLine := by rw [sizeLine_eq, len_app, len_app, len_one, len_one]; omega
              refine u_addS z3 ?_
              refine ⟨_, hC, by rw [sizeLine_eq, List.length_map]; omega, ki.mutN nC, (Si.mut ca).mono (by omega), ts ++ [head ++ ⟨#[c1]⟩ ++ ⟨#[c2]⟩ ++ tail], ?_, by simp [tl_], fun x hx => ?_⟩
              · rw [upd_same, List.map_append]
                rfl
              · rcases List.mem_append.mp hx with h | h
                · exact tm x h
                · rw [List.mem_singleton.mp h]
                  refine ⟨by rw [len_app, len_app, len_app, len_one, len_one]; omega, by rw [len_app, len_app, len_app, len_one, len_one]; omega, fun c hc' => ?_⟩
                  rcases mem_app.mp hc' with h | h
                  · rcases mem_app.mp h with h | h
                    · rcases mem_app.mp h with h | h
                      · exact hLk hc c h
                      · rw [mem_one.mp h]
                        exact (show ∀ c ∈ tl ("abcdefghij" : Str), 97 ≤ c ∧ c ≤ 122 by decide +kernel) c1 hc1
                    · rw [mem_one.mp h]
                      exact (show ∀ c ∈ tl ("abcdefghijkl" : Str), 97 ≤ c ∧ c ≤ 122 by decide +kernel) c2 hc2
                  · exact hLk tc c h
            · rintro Hc ⟨kc, Sc, ts, hC, tl_, tm⟩
              walk_at "go"
              exact ⟨C, ts, _, _, _, rfl, (((((kb.call1 kd (by simp)).call1 ke (by simp)).call1 kf (by simp)).call1 kg (by simp)).call0 k_Ht).call1 kc (by simp), Sc.mono (by omega), hC, (Sg.kp k_Ht).ne nC, by omega, tm⟩
          · walk_at "go"
            exact ⟨f, ts1, _, _, _, rfl, kb, Sb.mono (by omega), hf, fa, fl, fm⟩
        · clear kb Sb hf fa fl fm
          rintro σ Hb ⟨f, ts2, y7, y8, y9, rfl, kb, Sb, hf, fa, fl, fm⟩
          refine rd_cut (fun σ H' => ∃ (f : Addr) (ts : List Str) (y7 y8 y9 : Option V), σ = [some (.ref a), some (.ref b), some (.int style), some (.ref f), some (.int many), some (.str L), some (.int (1 + d7)), y7, y8, y9] ∧ Kp [a] H9 H' ∧ Src H' a (n' + 3300) ∧ H' f = some (.lst (ts.map V.str)) ∧ f ≠ a ∧ ts.length ≤ 120 ∧ ∀ w ∈ ts, okW w) ?_ ?_
          · walk_at "go"
            refine ite2 (fun c3 => ?_) (fun c3 => ?_)
            · walk_at "go"
              refine co_1 (by omega) (by omega) fun C nC => ⟨fun i H' => Kp [a] Hb H' ∧ Src H' a (n' + 2900 + 20 * i) ∧ ∃ ts : List Str, H' C = some (.lst (ts.map V.str)) ∧ ts.length = i ∧ ∀ w ∈ ts, okW w,
                ⟨Kp.refl.new nC, (Sb.new nC).mono (by omega), [], upd_same, rfl, by simp⟩, ?_, ?_⟩
              · rintro i Hi hi ⟨ki, Si, ts, hC, tl_, tm⟩
                have ca : C ≠ a := Sb.ne nC
                have hi2 : i < 12 := by omega
                walk_at "go"
                refine ⟨rfl, ?_⟩
                have one : ("a" : Str).length = 1 := by decide +kernel
                have h3 : ("a" : Str).length * (i : Int).toNat ≤ sizeLine := by rw [one, sizeLine_eq]; omega
                have b1 : (i : Int) < 16777217 := by omega
                have b2 : -16777217 < (i : Int) := by omega
                iterate 6 (walk_at "g1")
                refine u_mulS b1 b2 h3 ?_
                walk_at "go"
                refine ⟨a, _, _, rfl, Si, by omega, by omega, log_small (by omega), fun Hd d kd Sd d0 d1 => ?_⟩
                walk_at "go"
                obtain ⟨c, ec, mc⟩ := atI_lt (xs := tl L) d0 (by rw [← TL.len_tl]; exact d1)
                refine u_ixS (by rw [sizeLine_eq]; omega) ec ?_
                walk_at "go"
                refine ⟨a, _, _, rfl, Sd, by omega, by omega, log_small (by omega), fun He g ke Se g0 g1 => ?_⟩
                have h4 : (⟨#[c]⟩ : Str).length * (1 + g).toNat ≤ sizeLine := by rw [len_one, sizeLine_eq]; omega
                have b3 : 1 + g < 16777217 := by omega
                have b4 : -16777217 < 1 + g := by omega
                walk_at "go"
                have z0 : (strRep "a" ((i : Int).toNat)).length = i := by rw [strRep_len, one]; omega
                have z1 : (strRep ⟨#[c]⟩ ((1 + g).toNat)).length = (1 + g).toNat := by rw [strRep_len, len_one]; omega
                refine u_addS (by rw [z0, z1, sizeLine_eq]; omega) ?_
                refine ⟨_, ke.get1 (kd.get1 hC ca) ca, by rw [sizeLine_eq, List.length_map]; omega, ((ki.call1 kd (by simp)).call1 ke (by simp)).mutN nC, (Se.mut ca).mono (by omega), ts ++ [strRep "a" ((i : Int).toNat) ++ strRep ⟨#[c]⟩ ((1 + g).toNat)], ?_, by simp [tl_], fun x hx => ?_⟩
                · rw [upd_same, List.map_append]
                  rfl
                · rcases List.mem_append.mp hx with h | h
                  · exact tm x h
                  · rw [List.mem_singleton.mp h]
                    refine ⟨by rw [len_app, z0, z1]; omega, by rw [len_app, z0, z1]; omega, fun c' hc' => ?_⟩
                    rcases mem_app.mp hc' with h | h
                    · rw [tl_rep] at h
                      obtain ⟨l, hl2, hm⟩ := List.mem_flatten.mp h
                      rw [List.eq_of_mem_replicate hl2] at hm
                      exact (show ∀ c ∈ tl ("a" : Str), 97 ≤ c ∧ c ≤ 122 by decide +kernel) c' hm
                    · rw [tl_rep] at h
                      obtain ⟨l, hl2, hm⟩ := List.mem_flatten.mp h
                      rw [List.eq_of_mem_replicate hl2] at hm
                      rw [mem_one.mp hm]
                      exact hLc c mc
              · rintro Hc ⟨kc, Sc, ts, hC, tl_, tm⟩
                walk_at "go"
                exact ⟨C, ts, _, _, _, rfl, kb.call1 kc (by simp), Sc.mono (by omega), hC, Sb.ne nC, by omega, tm⟩
            · walk_at "go"
              exact ⟨f, ts2, _, _, _, rfl, kb, Sb.mono (by omega), hf, fa, fl, fm⟩
          · clear kb Sb hf fa fl fm
            rintro σ Hb ⟨f, ts3, y7, y8, y9, rfl, kb, Sb, hf, fa, fl, fm⟩
            walk_at "go"
            refine ⟨f, ts3, rfl, SqL.of hf, by omega, fun Hp p kp np hp => ?_⟩
            have B := bk_apart fl fm
            have Kp1 := (K9.call1 kb (by simp)).call0 kp
            walk_at "go"
            refine ⟨a, p, _, _, rfl, Sb.kp kp, by omega, SqL.of hp, by rw [List.length_map]; have := B.len; omega, fun Hq r ys kq nr ra Sr hr pm => ?_⟩
            obtain ⟨us, rfl, pu⟩ := perm_strs pm
            walk_at "go"
            exact q _ r us (Kp1.call1 kq (by simp)) ((Sb.kp kp).free Kp1 nr) ra (Sr.mono (by rw [List.length_map]; have := B.len; omega)) hr (B.perm pu)
end
end My
open PySem PySem.Spec PyProof.Rows L2 Gd

namespace My
section
variable {P : Program} {w : World} {K : PySem.W.Frag} {mg : Str → Option Value} {base : Heap}
/-! lists of values: words, or others -/
theorem IsV.kp0 {H H' : Hp} {v : V} {o : Option Str} (h : IsV K H v o) (k : Kp [] H H') : IsV K H' v o := by
  cases h with
  | str s a b => exact .str s a b
  | oth t n => exact .oth (t.kp0 k) n
inductive LV (K : PySem.W.Frag) (H : Hp) : V → List (Option Str) → Prop
  | lst {a : Addr} {xs : List V} {os : List (Option Str)} (h : SqL K H a xs) (z : xs.length < 4000) (e : xs.length = os.length)
      (f : ∀ (i : Nat) (x : V), xs[i]? = some x → ∃ o, os[i]? = some o ∧ IsV K H x o) : LV K H (.ref a) os
  | oth {v : V} {T : String} (h : TyN K H v T) (n : T ≠ "list") : LV K H v [none]
def sp__is_word_list (K : PySem.W.Frag) : Sp := fun vs H Q _ => ∃ v os, vs = [v] ∧ LV K H v os ∧ ∀ H', Kp [] H H' → Q (.bl (os.all exW)) H'
theorem ok__is_word_list (n : Nm mg) (c_is_word : GC P w K mg base 2 "is_word" (sp_is_word K)) {f : Addr} {fd : FuncData} (F : Fun K "_is_word_list" "_is_word_list" s__is_word_list f fd) :
    GFn P w K mg base CX0 3 f fd ["value"] (sp__is_word_list K) := by
  have n_all := n.all_
  have n_list := n.list_
  have n_type := n.type_
  refine GFn.mk' F sc__is_word_list (fun vs H Q E h => ?_) (fun cdv A outer s H vs Q E gd hr h => ?_)
  · obtain ⟨v, os, rfl, _⟩ := h
    rfl
  obtain ⟨v, os, rfl, hv, q⟩ := h
  refine ⟨_, (pss_one (ps_ret (kpe_andT (K := K) rfl (pe_cmpR ou_eqT (pe_callTy (kcu_typ (K := K) rfl) (by rfl) n_type (by decide +kernel) (pa_cons (pv 0) pa_nil)) (pe_bltn (v := .ty "list") (by rfl) n_list (by decide +kernel) rfl) (nomark _)) (pe_one (pe_callB (kcr_all (K := K) rfl rfl) (by rfl) n_all (by decide +kernel) (pa_cons (pe_lc (own := [("item", 1)]) rfl sc__is_word_list.nd (kpi_u (K := K) rfl (pv 0)) (blkOk_by (own := [("item", 1)]) (N := N__is_word_list) (sc := defScope s__is_word_list) (by decide +kernel)) (fun _ _ _ _ _ => (pg_name (i := 1) sc__is_word_list.nd rfl (.inl rfl))) (fun _ _ _ _ _ => pts_nil) (fun _ _ _ _ _ => (pe_gc c_is_word gd hr (by decide) (by rfl) (pa_cons (pv 1) pa_nil)))) pa_nil)))))), ?_⟩
  cases hv with
  | oth ht hn =>
    walk_at "go"
    refine rd_typ ht ?_
    walk_at "go"
    refine rd_eqTf ht hn ?_
    walk_at "go"
    exact q _ Kp.refl
  | lst h z e f =>
    walk_at "go"
    refine rd_typ (.lst h) ?_
    walk_at "go"
    refine rd_eqTt ?_
    walk_at "go"
    refine co_l h fun C nC => ⟨fun i H' => Kp [] H H' ∧ H' C = some (.lst (((os.take i).map exW).map V.bl)), ⟨Kp.refl.new nC, upd_same⟩, fun i H' p => p.1.same.seq h, ?_, ?_⟩
    · rintro i x H1 ex ⟨k1, e1⟩
      obtain ⟨o, eo, io⟩ := f i x ex
      have hi := (List.getElem?_eq_some_iff.mp eo).1
      walk_at "go"
      refine ⟨rfl, ?_⟩
      walk_at "go"
      refine ⟨_, o, rfl, io.kp0 k1, fun H2 k2 => ?_⟩
      walk_at "go"
      refine ⟨_, k2.get0 e1, ?_, (k1.call0 k2).mutN nC, ?_⟩
      · rw [List.length_map, List.length_map, List.length_take, sizeLine_eq]
        omega
      · rw [upd_same, List.take_add_one, eo]
        simp
    · rintro H1 ⟨k1, e1⟩
      walk_at "go"
      rw [e, List.take_length] at e1
      refine ⟨C, os.map exW, rfl, SqL.of e1, ?_⟩
      rw [List.all_map]
      exact q _ k1
def sp__least_clash (K : PySem.W.Frag) : Sp := fun vs H Q _ => ∃ (a : Addr) (ws : List Str), vs = [.ref a] ∧ SqL K H a (ws.map V.str) ∧ ws.length < 4000 ∧
  ∀ ys H', ys.Perm (dedT ws) → sortedS ys = true → Kp [] H H' → (adj ys = none → Q .non H') ∧ (∀ x y p, adj ys = some (x, y) → H' p = some (.tup [.str x, .str y]) → H p = none → Q (.ref p) H')
theorem ok__least_clash (n : Nm mg)  {f : Addr} {fd : FuncData} (F : Fun K "_least_clash" "_least_clash" s__least_clash f fd) :
    GFn P w K mg base CX0 1 f fd ["words"] (sp__least_clash K) := by
  have n_set := n.set_
  have n_sorted := n.sorted_
  have n_zip := n.zip_
  refine GFn.mk' F sc__least_clash (fun vs H Q E h => ?_) (fun cdv A outer s H vs Q E gd hr h => ?_)
  · obtain ⟨a, ws, rfl, _⟩ := h
    rfl
  obtain ⟨a, ws, rfl, h, hz, q⟩ := h
  refine ⟨_, (pss_cons (ps_set (i := 1) sc__least_clash.nd rfl (.inl rfl) (pe_callB (kcu_sorted (K := K) (w := w) rfl rfl rfl) (by rfl) n_sorted (by decide +kernel) (pa_cons (pe_callTy (kcu_set (K := K) (w := w) rfl rfl rfl) (by rfl) n_set (by decide +kernel) (pa_cons (pv 0) pa_nil)) pa_nil)))
      (pss_cons (ps_for PassesOwn.never rfl (kpi_zip (K := K) rfl (by rfl) n_zip (pa_cons (pv 1) (pa_cons (pe_slice (ksl_u (K := K) rfl) (pv 1) (po_some pe_int) po_none) pa_nil))) (kpg_tup (K := K) (n := 2) rfl rfl (pgs_cons (pg_name (i := 2) sc__least_clash.nd rfl (.inl rfl)) (pgs_cons (pg_name (i := 3) sc__least_clash.nd rfl (.inl rfl)) pgs_nil)))
      (pss_one (ps_if (kpt_u (K := K) rfl (pe_m1 PySem.F.slot_str_startswith PySem.F.type_str_startswith mt_startswith (pv 3) (pv 2)) (by intro _; rfl))
      (pss_one (ps_ret (pe_tup (pa_cons (pv 2) (pa_cons (pv 3) pa_nil)))))
      pss_nil)))
      (pss_one (ps_ret pe_non)))), ?_⟩
  walk_at "go"
  refine u_set h hz ?_
  intro p1 n_p1
  generalize g_H1 : upd _ p1 _ = H1
  obtain ⟨k_H1, e_p1⟩ := al_of n_p1 g_H1
  clear g_H1
  walk_at "go"
  refine u_sortedS e_p1 ?_
  intro p2 ys n_p2 pm so
  have q := fun H' => q ys H' pm so
  generalize g_H2 : upd H1 p2 _ = H2
  obtain ⟨k_H2, e_p2⟩ := al_of n_p2 g_H2
  clear g_H2
  walk_at "go"
  refine u_slL (SqL.of e_p2) ?_
  intro p3 n_p3
  generalize g_H3 : upd _ p3 _ = H3
  obtain ⟨k_H3, e_p3⟩ := al_of n_p3 g_H3
  clear g_H3
  have hc : cutV (ys.map V.str) (some 1) none = (ys.drop 1).map V.str := by
    rw [List.map_drop]
    exact cutV_from _ (by decide)
  rw [hc] at e_p3
  have K3 : Kp [] H H3 := (k_H1.call0 k_H2).call0 k_H3
  have f2 := k_H3.get0 e_p2
  walk_at "go"
  refine fo_z (SqL.of f2) (SqL.of e_p3) (fun i σ H' => ∃ y2 y3, σ = [some (.ref a), some (.ref p2), y2, y3] ∧ Kp [] H3 H' ∧ adj (ys.drop i) = adj ys) ⟨_, _, rfl, Kp.refl, rfl⟩
    (fun i σ H' h => by obtain ⟨_, _, _, k, _⟩ := h; exact ⟨SqL.of (k.get0 f2), SqL.of (k.get0 e_p3)⟩) ?_ ?_
  · rintro i x y T σ H4 ex ey nT ⟨y2, y3, rfl, k4, hd⟩
    rw [List.getElem?_map] at ex ey
    obtain ⟨u, eu, rfl⟩ := Option.map_eq_some_iff.mp ex
    obtain ⟨v, ev, rfl⟩ := Option.map_eq_some_iff.mp ey
    rw [List.getElem?_drop, Nat.add_comm] at ev
    have hd1 : ys.drop i = u :: v :: ys.drop (i + 2) := by
      rw [List.drop_eq_getElem?_toList_append, eu, List.drop_eq_getElem?_toList_append, ev]
      rfl
    have hd2 : ys.drop (i + 1) = v :: ys.drop (i + 2) := by
      rw [List.drop_eq_getElem?_toList_append, ev]
      rfl
    generalize g_H5 : upd H4 T _ = H5
    obtain ⟨k5, e5⟩ := al_of nT g_H5
    clear g_H5
    walk_at "go"
    refine ite2 (fun c => ?_) (fun c => ?_)
    · walk_at "go"
      intro p np
      have hs : adj ys = some (u, v) := by
        rw [← hd, hd1, adj, if_pos c]
      refine (q _ (((K3.call0 k4).call0 k5).new np)).2 u v p hs upd_same ?_
      exact ((K3.call0 k4).call0 k5).free0 np
    · walk_at "go"
      refine ⟨_, _, rfl, k4.call0 k5, ?_⟩
      rw [← hd, hd1, adj, if_neg c, hd2]
  · rintro σ H4 ⟨y2, y3, rfl, k4, hd⟩
    walk_at "go"
    refine (q _ (K3.call0 k4)).1 ?_
    rw [← hd]
    rw [List.length_map, List.length_map, List.length_drop, Nat.min_eq_right (by omega)]
    have hl : (ys.drop (ys.length - 1)).length ≤ 1 := by
      rw [List.length_drop]
      omega
    match ys.drop (ys.length - 1), hl with
    | [], _ => rfl
    | [_], _ => rfl
/-! histories, books -/
theorem exW_map : ∀ (os : List (Option Str)), os.all exW = true → ∃ ws : List Str, os = ws.map some ∧ ∀ w ∈ ws, isW w = true
  | [], _ => ⟨[], rfl, by simp⟩
  | none :: os, h => by simp [exW] at h
  | some s :: os, h => by
    rw [List.all_cons, Bool.and_eq_true] at h
    obtain ⟨ws, e, hw⟩ := exW_map os h.2
    refine ⟨s :: ws, by rw [e]; rfl, fun w m => ?_⟩
    rcases List.mem_cons.mp m with rfl | m
    · exact h.1
    · exact hw w m
theorem LV.words {H : Hp} {v : V} {os : List (Option Str)} (h : LV K H v os) (c : os.all exW = true) :
    ∃ (a : Addr) (ws : List Str), v = .ref a ∧ SqL K H a (ws.map V.str) ∧ ws.length < 4000 ∧ os = ws.map some ∧ ∀ w ∈ ws, isW w = true := by
  obtain ⟨ws, e, hw⟩ := exW_map os c
  cases h with
  | oth ht hn => simp [exW] at c
  | @lst a xs _ h z e2 f =>
    subst e
    rw [List.length_map] at e2
    have hx : xs = ws.map V.str := by
      refine List.ext_getElem? fun i => ?_
      by_cases hi : i < xs.length
      · obtain ⟨o, eo, io⟩ := f i _ (List.getElem?_eq_getElem hi)
        rw [List.getElem?_map] at eo
        obtain ⟨s, es, rfl⟩ := Option.map_eq_some_iff.mp eo
        rw [List.getElem?_map, es, List.getElem?_eq_getElem hi]
        generalize xs[i] = x at io
        cases io
        rfl
      · rw [List.getElem?_eq_none (by omega), List.getElem?_eq_none (by rw [List.length_map]; omega)]
    subst hx
    exact ⟨a, ws, rfl, h, by omega, rfl, hw⟩
def sp_is_history (K : PySem.W.Frag) : Sp := fun vs H Q _ => ∃ v os, vs = [v] ∧ LV K H v os ∧ ∀ b H', Kp [] H H' → (b = true → os.all exW = true) →
  (∀ ws : List Str, os = ws.map some → os.all exW = true → (NC ws → b = true) ∧ (∀ ys, ys.Perm (dedT ws) → sortedS ys = true → b = (adj ys).isNone)) → Q (.bl b) H'
theorem ok_is_history (n : Nm mg) (c__is_word_list : GC P w K mg base 3 "_is_word_list" (sp__is_word_list K)) (c__least_clash : GC P w K mg base 1 "_least_clash" (sp__least_clash K)) {f : Addr} {fd : FuncData} (F : Fun K "is_history" "is_history" s_is_history f fd) :
    GFn P w K mg base CX0 4 f fd ["value"] (sp_is_history K) := by
  refine GFn.mk' F sc_is_history (fun vs H Q E h => ?_) (fun cdv A outer s H vs Q E gd hr h => ?_)
  · obtain ⟨v, os, rfl, _⟩ := h
    rfl
  obtain ⟨v, os, rfl, hv, q⟩ := h
  refine ⟨_, (pss_one (ps_ret (kpe_andT (K := K) rfl (pe_gc c__is_word_list gd hr (by decide) (by rfl) (pa_cons (pv 0) pa_nil)) (pe_one (pe_cmpR op_isN (pe_gc c__least_clash gd hr (by decide) (by rfl) (pa_cons (pv 0) pa_nil)) pe_non (nomark _)))))), ?_⟩
  walk_at "go"
  refine ⟨_, os, rfl, hv, fun H1 k1 => ?_⟩
  walk_at "go"
  refine ite2 (fun c => ?_) (fun c => ?_)
  · obtain ⟨a, ws, rfl, h, hz, rfl, hw⟩ := hv.words c
    walk_at "go"
    refine ⟨a, ws, rfl, k1.same.seq h, hz, fun ys H2 pm so k2 => ⟨fun hn => ?_, fun x y p hs e np => ?_⟩⟩
    · walk_at "go"
      refine ⟨rfl, ?_⟩
      show Q (.bl (decide (V.non = V.non))) H2
      rw [decide_eq_true rfl]
      refine q true _ (k1.call0 k2) (fun _ => c) (fun ws' e _ => ?_)
      obtain rfl := (List.map_inj_right (fun _ _ => Option.some.inj)).mp e
      refine ⟨fun _ => rfl, fun ys' pm' so' => ?_⟩
      rw [sortedS_eq so' so (pm'.trans pm.symm), hn]
      rfl
    · walk_at "go"
      refine ⟨rfl, ?_⟩
      show Q (.bl (decide (V.ref p = V.non))) H2
      rw [decide_eq_false (fun e => nomatch e)]
      refine q false _ (k1.call0 k2) (fun _ => c) (fun ws' e _ => ?_)
      obtain rfl := (List.map_inj_right (fun _ _ => Option.some.inj)).mp e
      refine ⟨fun nc => ?_, fun ys' pm' so' => ?_⟩
      · rw [nc.adj pm] at hs
        cases hs
      · rw [sortedS_eq so' so (pm'.trans pm.symm), hs]
        rfl
  · rw [Bool.not_eq_true] at c
    rw [c]
    refine q false H1 k1 (fun h => nomatch h) (fun ws e h => ?_)
    rw [c] at h
    cases h
def sp_check_history (K : PySem.W.Frag) : Sp := fun vs H Q _ => ∃ (a : Addr) (ws : List Str), vs = [.ref a] ∧ SqL K H a (ws.map V.str) ∧ ws.length < 4000 ∧ (∀ w ∈ ws, isW w = true) ∧ NC ws ∧ ∀ H', Kp [] H H' → Q .non H'
theorem strOk_w {s : Str} (h : isW s = true) : PyData.strOk s = true := by
  simp only [isW, isT, Bool.and_eq_true, decide_eq_true_eq, List.all_eq_true] at h
  refine (strOk_iff s).mpr fun c hc => ?_
  have := h.1.2 c hc
  simp only [low, decide_eq_true_eq] at this
  omega
theorem lv_words {H : Hp} {a : Addr} {ws : List Str} (h : SqL K H a (ws.map V.str)) (hz : ws.length < 4000) (hw : ∀ w ∈ ws, isW w = true) : LV K H (.ref a) (ws.map some) := by
  refine .lst h (by rw [List.length_map]; exact hz) (by rw [List.length_map, List.length_map]) fun i x ex => ?_
  rw [List.getElem?_map] at ex
  obtain ⟨s, es, rfl⟩ := Option.map_eq_some_iff.mp ex
  refine ⟨some s, by rw [List.getElem?_map, es]; rfl, ?_⟩
  have := hw s (List.mem_of_getElem? es)
  simp only [isW, isT, Bool.and_eq_true, decide_eq_true_eq, List.all_eq_true] at this
  refine .str s (by omega) ((strOk_iff s).mpr fun c hc => ?_)
  have := this.1.2 c hc
  simp only [low, decide_eq_true_eq] at this
  omega
theorem all_words {ws : List Str} (hw : ∀ w ∈ ws, isW w = true) : (ws.map some).all exW = true := by
  rw [List.all_eq_true]
  intro o ho
  obtain ⟨s, hs, rfl⟩ := List.mem_map.mp ho
  exact hw s hs
def sp_play_uses (K : PySem.W.Frag) : Sp := fun vs H Q _ => ∃ (a b : Addr) (ws us : List Str), vs = [.ref a, .ref b] ∧ SqL K H a (ws.map V.str) ∧ SqL K H b (us.map V.str) ∧ ws.length < 4000 ∧ us.length < 4000 ∧
  ∀ H' p, Kp [] H H' → H p = none → H' p = some (.lst ((play ws us).map V.str)) → Q (.ref p) H'
def sp_book_after (K : PySem.W.Frag) : Sp := fun vs H Q _ => ∃ (a : Addr) (ws : List Str), vs = [.ref a] ∧ SqL K H a (ws.map V.str) ∧ ws.length < 4000 ∧ (∀ w ∈ ws, isW w = true) ∧ NC ws ∧
  ∀ H' p, Kp [] H H' → H p = none → H' p = some (.lst ((play [] ws).map V.str)) → Q (.ref p) H'
end
end My
open PySem PySem.Spec PyProof.Rows L2 Gd

namespace My
section
variable {P : Program} {w : World} {K : PySem.W.Frag} {mg : Str → Option Value} {base : Heap}
def sp_is_book (K : PySem.W.Frag) : Sp := fun vs H Q _ => ∃ v os, vs = [v] ∧ LV K H v os ∧ ∀ b H', Kp [] H H' → (b = true → os.all exW = true) →
  (∀ ws : List Str, os = ws.map some → os.all exW = true → (NC ws → b = decide ((dedT ws).length = ws.length)) ∧
    (∀ ys, ys.Perm (dedT ws) → sortedS ys = true → b = ((adj ys).isNone && decide ((dedT ws).length = ws.length)))) → Q (.bl b) H'
theorem ok_is_book (n : Nm mg) (c_is_history : GC P w K mg base 4 "is_history" (sp_is_history K)) {f : Addr} {fd : FuncData} (F : Fun K "is_book" "is_book" s_is_book f fd) :
    GFn P w K mg base CX0 5 f fd ["value"] (sp_is_book K) := by
  have n_len := n.len_
  have n_set := n.set_
  refine GFn.mk' F sc_is_book (fun vs H Q E h => ?_) (fun cdv A outer s H vs Q E gd hr h => ?_)
  · obtain ⟨v, os, rfl, _⟩ := h
    rfl
  obtain ⟨v, os, rfl, hv, q⟩ := h
  refine ⟨_, (pss_one (ps_ret (kpe_andT (K := K) rfl (pe_gc c_is_history gd hr (by decide) (by rfl) (pa_cons (pv 0) pa_nil)) (pe_one (pe_cmpR (kou_eq (K := K) rfl hr.units) (pe_callB (kcu_lenS (w := w) rfl) (by rfl) n_len (by decide +kernel) (pa_cons (pe_callTy (kcu_set (K := K) (w := w) rfl rfl rfl) (by rfl) n_set (by decide +kernel) (pa_cons (pv 0) pa_nil)) pa_nil)) (pe_callB (kcu_len (K := K) rfl) (by rfl) n_len (by decide +kernel) (pa_cons (pv 0) pa_nil)) (nomark _)))))), ?_⟩
  walk_at "go"
  refine ⟨_, os, rfl, hv, fun b H1 k1 hb1 hb => ?_⟩
  cases b with
  | false =>
    walk_at "go"
    refine q false _ k1 (fun h => nomatch h) (fun ws e h => ⟨fun nc => ?_, fun ys pm so => ?_⟩)
    · have := (hb ws e h).1 nc
      cases this
    · rw [← (hb ws e h).2 ys pm so]
      rfl
  | true =>
    have c := hb1 rfl
    obtain ⟨a, ws, rfl, h, hz, rfl, hw⟩ := hv.words c
    walk_at "go"
    have h1 := k1.same.seq h
    refine u_set h1 hz ?_
    intro p n_p
    generalize g_H2 : upd _ p _ = H2
    obtain ⟨k_H2, e_p⟩ := al_of n_p g_H2
    clear g_H2
    walk_at "go"
    refine u_lenS' e_p ?_
    walk_at "go"
    refine u_lenL (k_H2.same.seq h1) ?_
    walk_at "go"
    refine q _ _ (k1.call0 k_H2) (fun _ => c) (fun ws' e h => ?_)
    obtain rfl := (List.map_inj_right (fun _ _ => Option.some.inj)).mp e
    refine ⟨fun nc => ?_, fun ys pm so => ?_⟩
    · rw [List.length_map, decide_eq_decide]
      omega
    · rw [← (hb ws rfl h).2 ys pm so, List.length_map, Bool.true_and, decide_eq_decide]
      omega
def sp_check_book (K : PySem.W.Frag) : Sp := fun vs H Q _ => ∃ (a : Addr) (ws : List Str), vs = [.ref a] ∧ SqL K H a (ws.map V.str) ∧ ws.length < 4000 ∧ (∀ w ∈ ws, isW w = true) ∧ NC ws ∧ ws.Nodup ∧ ∀ H', Kp [] H H' → Q .non H'
theorem ok_check_book (n : Nm mg) (c_is_book : GC P w K mg base 5 "is_book" (sp_is_book K)) {f : Addr} {fd : FuncData} (F : Fun K "check_book" "check_book" s_check_book f fd) :
    GFn P w K mg base CX0 6 f fd ["value"] (sp_check_book K) := by
  refine GFn.mk' F sc_check_book (fun vs H Q E h => ?_) (fun cdv A outer s H vs Q E gd hr h => ?_)
  · obtain ⟨a, ws, rfl, _⟩ := h
    rfl
  obtain ⟨a, ws, rfl, h, hz, hw, nc, nd, q⟩ := h
  refine ⟨_, (pss_one (ps_if (pt_not (kpt_u (K := K) rfl (pe_gc c_is_book gd hr (by decide) (by rfl) (pa_cons (pv 0) pa_nil)) (by intro _; rfl)))
      (pss_one ps_never)
      pss_nil)), ?_⟩
  walk_at "go"
  refine ⟨_, ws.map some, rfl, lv_words h hz hw, fun b H1 k1 _ hb => ?_⟩
  rw [(hb ws rfl (all_words hw)).1 nc, dedT_id nd, decide_eq_true rfl]
  walk_at "go"
  exact q _ k1
theorem isV_word {H : Hp} {s : Str} (h : isW s = true) : IsV K H (.str s) (some s) := by
  have ok := strOk_w h
  simp only [isW, isT, Bool.and_eq_true, decide_eq_true_eq, List.all_eq_true] at h
  exact .str s (by omega) ok
def sp_check_word (K : PySem.W.Frag) : Sp := fun vs H Q _ => ∃ (x : Str), vs = [.str x] ∧ isW x = true ∧ ∀ H', Kp [] H H' → Q .non H'
theorem ok_check_word (n : Nm mg) (c_is_word : GC P w K mg base 2 "is_word" (sp_is_word K)) {f : Addr} {fd : FuncData} (F : Fun K "check_word" "check_word" s_check_word f fd) :
    GFn P w K mg base CX0 3 f fd ["value"] (sp_check_word K) := by
  refine GFn.mk' F sc_check_word (fun vs H Q E h => ?_) (fun cdv A outer s H vs Q E gd hr h => ?_)
  · obtain ⟨x, rfl, _⟩ := h
    rfl
  obtain ⟨x, rfl, hx, q⟩ := h
  refine ⟨_, (pss_one (ps_if (pt_not (kpt_u (K := K) rfl (pe_gc c_is_word gd hr (by decide) (by rfl) (pa_cons (pv 0) pa_nil)) (by intro _; rfl)))
      (pss_one ps_never)
      pss_nil)), ?_⟩
  walk_at "go"
  refine ⟨_, some x, rfl, isV_word hx, fun H1 k1 => ?_⟩
  rw [show exW (some x) = true from hx]
  walk_at "go"
  exact q _ k1
def sp_check_no_clash (K : PySem.W.Frag) : Sp := fun vs H Q _ => ∃ (a : Addr) (ws : List Str), vs = [.ref a] ∧ SqL K H a (ws.map V.str) ∧ ws.length < 4000 ∧ NC ws ∧ ∀ H', Kp [] H H' → Q .non H'
theorem ok_check_no_clash (n : Nm mg) (c__least_clash : GC P w K mg base 1 "_least_clash" (sp__least_clash K)) {f : Addr} {fd : FuncData} (F : Fun K "check_no_clash" "check_no_clash" s_check_no_clash f fd) :
    GFn P w K mg base CX0 2 f fd ["words"] (sp_check_no_clash K) := by
  refine GFn.mk' F sc_check_no_clash (fun vs H Q E h => ?_) (fun cdv A outer s H vs Q E gd hr h => ?_)
  · obtain ⟨a, ws, rfl, _⟩ := h
    rfl
  obtain ⟨a, ws, rfl, h, hz, nc, q⟩ := h
  refine ⟨_, (pss_cons (ps_set (i := 1) sc_check_no_clash.nd rfl (.inl rfl) (pe_gc c__least_clash gd hr (by decide) (by rfl) (pa_cons (pv 0) pa_nil)))
      (pss_one (ps_if (pt_cmpR op_notN (pv 1) pe_non (nomark _))
      (pss_one ps_never)
      pss_nil))), ?_⟩
  walk_at "go"
  refine ⟨a, ws, rfl, h, hz, fun ys H1 pm so k1 => ⟨fun _ => ?_, fun x y p e _ _ => ?_⟩⟩
  · walk_at "go"
    refine ⟨rfl, ?_⟩
    rw [show (!decide (V.non = V.non)) = false by rw [decide_eq_true rfl]; rfl]
    walk_at "go"
    exact q _ k1
  · rw [nc.adj pm] at e
    cases e
def sp_clashing_pair (K : PySem.W.Frag) : Sp := fun vs H Q _ => ∃ (a : Addr) (ws : List Str), vs = [.ref a] ∧ SqL K H a (ws.map V.str) ∧ ws.length < 4000 ∧ (∀ w ∈ ws, isW w = true) ∧
  ∀ ys H', ys.Perm (dedT ws) → sortedS ys = true → Kp [] H H' → (adj ys = none → Q .non H') ∧ (∀ x y p, adj ys = some (x, y) → H' p = some (.tup [.str x, .str y]) → H p = none → Q (.ref p) H')
def sp_after_uses (K : PySem.W.Frag) : Sp := fun vs H Q _ => ∃ (b p : Addr) (ws us : List Str), vs = [.ref b, .ref p] ∧ SqL K H b (ws.map V.str) ∧ H p = some (.tup (us.map V.str)) ∧ ws.length + us.length < 4000 ∧
  (∀ w ∈ ws, isW w = true) ∧ (∀ w ∈ us, isW w = true) ∧ NC (ws ++ us) ∧ ws.Nodup ∧ ∀ H' c, Kp [] H H' → H c = none → H' c = some (.lst ((play ws us).map V.str)) → Q (.ref c) H'
end
end My
open PySem PySem.Spec PyProof.Rows L2 Gd

namespace My
section
variable {P : Program} {w : World} {K : PySem.W.Frag} {mg : Str → Option Value} {base : Heap}
/-! what is suggested, what is typed -/
def optV : Option Str → V
  | none => .non
  | some s => .str s
def sug (ws : List Str) (x : Str) : Option Str := ws.reverse.find? fun o => Txt.startswith o x
def cutT (x : Str) (l : Nat) : Str := cutS x none (some (l : Int))
def typ (ws : List Str) (x : Str) : Option Nat := (List.range x.length).find? fun l => sug ws (cutT x l) == some x
def typed (ws : List Str) (x : Str) : Str := match typ ws x with
  | some l => cutT x l
  | none => x
def sp_last_with (K : PySem.W.Frag) : Sp := fun vs H Q _ => ∃ (a : Addr) (ws : List Str) (x : Str), vs = [.ref a, .str x] ∧ SqL K H a (ws.map V.str) ∧ ∀ H', Kp [] H H' → Q (optV (sug ws x)) H'
theorem find_drop {α : Type} (p : α → Bool) : ∀ (l : List α) (i : Nat), (l.take i).find? p = none → l.find? p = (l.drop i).find? p
  | [], i, _ => by simp
  | x :: l, 0, _ => rfl
  | x :: l, i + 1, h => by
    rw [List.take_succ_cons, List.find?_cons] at h
    rw [List.find?_cons]
    split at h
    · cases h
    · exact find_drop p l i h
theorem ok_last_with (n : Nm mg)  {f : Addr} {fd : FuncData} (F : Fun K "last_with" "last_with" s_last_with f fd) :
    GFn P w K mg base CX0 1 f fd ["book", "text"] (sp_last_with K) := by
  have n_reversed := n.reversed_
  refine GFn.mk' F sc_last_with (fun vs H Q E h => ?_) (fun cdv A outer s H vs Q E gd hr h => ?_)
  · obtain ⟨a, ws, x, rfl, _⟩ := h
    rfl
  obtain ⟨a, ws, x, rfl, h, q⟩ := h
  refine ⟨_, (pss_cons (ps_for PassesOwn.never rfl (pi_reversed (by rfl) n_reversed (pa_cons (pv 0) pa_nil)) (pg_name (i := 2) sc_last_with.nd rfl (.inl rfl))
      (pss_one (ps_if (kpt_u (K := K) rfl (pe_m1 PySem.F.slot_str_startswith PySem.F.type_str_startswith mt_startswith (pv 2) (pv 1)) (by intro _; rfl))
      (pss_one (ps_ret (pv 2)))
      pss_nil)))
      (pss_one (ps_ret pe_non))), ?_⟩
  walk_at "go"
  refine fo_v h (fun i σ H' => ∃ y2, σ = [some (.ref a), some (.str x), y2] ∧ Kp [] H H' ∧ (ws.reverse.take i).find? (fun o => Txt.startswith o x) = none) ⟨_, rfl, Kp.refl, by simp⟩
    (fun i σ H' h1 => by obtain ⟨_, _, k, _⟩ := h1; exact k.same.seq h) ?_ ?_
  · rintro i v σ H1 hi ev ⟨y2, rfl, k1, hf⟩
    rw [List.length_map] at hi ev
    rw [List.getElem?_map] at ev
    obtain ⟨o, eo, rfl⟩ := Option.map_eq_some_iff.mp ev
    have er : ws.reverse[i]? = some o := by rw [List.getElem?_reverse hi]; exact eo
    walk_at "go"
    refine ite2 (fun c => ?_) (fun c => ?_)
    · walk_at "go"
      have e : sug ws x = some o := by
        unfold sug
        rw [find_drop _ _ i hf, List.drop_eq_getElem?_toList_append, er]
        simp [c]
      have := q _ k1
      rw [e] at this
      exact this
    · walk_at "go"
      refine ⟨_, rfl, k1, ?_⟩
      rw [List.take_add_one, er, List.find?_append, hf]
      simp [c]
  · rintro σ H1 ⟨y2, rfl, k1, hf⟩
    walk_at "go"
    have e : sug ws x = none := by
      rw [List.length_map, ← List.length_reverse, List.take_length] at hf
      exact hf
    have := q _ k1
    rw [e] at this
    exact this
def sp_typed_letters (K : PySem.W.Frag) : Sp := fun vs H Q _ => ∃ (a : Addr) (ws : List Str) (x : Str), vs = [.ref a, .str x] ∧ SqL K H a (ws.map V.str) ∧ x.length ≤ 1000 ∧ ∀ H', Kp [] H H' → Q (.str (typed ws x)) H'
theorem u_eqO {H : Hp} {Q : VK} {o : Option Str} {x : Str} (q : Q (.bl (o == some x)) H) : uEq K (optV o) (.str x) H Q := by
  cases o with
  | none =>
    refine .inl ⟨rfl, ?_⟩
    rw [decide_eq_false (by simp [optV])]
    exact q
  | some y =>
    refine u_eqS ?_
    rw [show (some y == some x) = decide (y = x) by by_cases e : y = x <;> simp [e]] at q
    exact q
theorem ok_typed_letters (n : Nm mg) (c_last_with : GC P w K mg base 1 "last_with" (sp_last_with K)) {f : Addr} {fd : FuncData} (F : Fun K "typed_letters" "typed_letters" s_typed_letters f fd) :
    GFn P w K mg base CX0 2 f fd ["book", "word"] (sp_typed_letters K) := by
  have n_len := n.len_
  have n_range := n.range_
  refine GFn.mk' F sc_typed_letters (fun vs H Q E h => ?_) (fun cdv A outer s H vs Q E gd hr h => ?_)
  · obtain ⟨a, ws, x, rfl, _⟩ := h
    rfl
  obtain ⟨a, ws, x, rfl, h, hx, q⟩ := h
  refine ⟨_, (pss_cons (ps_for PassesOwn.never rfl (pi_range1 (by rfl) n_range (pa_cons (pe_callB (kcu_len (K := K) rfl) (by rfl) n_len (by decide +kernel) (pa_cons (pv 1) pa_nil)) pa_nil)) (pg_name (i := 2) sc_typed_letters.nd rfl (.inl rfl))
      (pss_one (ps_if (pt_cmpR (kou_eq (K := K) rfl hr.units) (pe_gc c_last_with gd hr (by decide) (by rfl) (pa_cons (pv 0) (pa_cons (pe_slice (ksl_u (K := K) rfl) (pv 1) po_none (po_some (pv 2))) pa_nil))) (pv 1) (nomark _))
      (pss_one (ps_ret (pe_slice (ksl_u (K := K) rfl) (pv 1) po_none (po_some (pv 2)))))
      pss_nil)))
      (pss_one (ps_ret (pv 1)))), ?_⟩
  walk_at "go"
  refine fo_1 (by omega) (by omega) (fun i σ H' => ∃ y2, σ = [some (.ref a), some (.str x), y2] ∧ Kp [] H H' ∧ ((List.range x.length).take i).find? (fun l => sug ws (cutT x l) == some x) = none) ⟨_, rfl, Kp.refl, by simp⟩ ?_ ?_
  · rintro i σ H1 hi ⟨y2, rfl, k1, hf⟩
    have hi2 : i < x.length := by omega
    have er : (List.range x.length)[i]? = some i := by simp [hi2]
    walk_at "go"
    refine ⟨a, ws, _, rfl, k1.same.seq h, fun H2 k2 => ?_⟩
    walk_at "go"
    refine u_eqO ?_
    walk_at "go"
    refine ite2 (fun c => ?_) (fun c => ?_)
    · have e : typ ws x = some i := by
        unfold typ
        rw [find_drop _ _ i hf, List.drop_eq_getElem?_toList_append, er]
        simp only [Option.toList_some, List.cons_append, List.find?_cons]
        rw [show (sug ws (cutT x i) == some x) = true from c]
      walk_at "go"
      have := q _ (k1.call0 k2)
      rw [typed, e] at this
      exact this
    · walk_at "go"
      refine ⟨_, rfl, k1.call0 k2, ?_⟩
      rw [List.take_add_one, er, List.find?_append, hf]
      simp only [Option.toList_some, Option.none_or, List.find?_cons, List.find?_nil]
      rw [show (sug ws (cutT x i) == some x) = false from by simpa [cutT] using c]
  · rintro σ H1 ⟨y2, rfl, k1, hf⟩
    walk_at "go"
    have e : typ ws x = none := by
      unfold typ
      rw [List.take_of_length_le (by simp)] at hf
      exact hf
    have := q _ k1
    rw [typed, e] at this
    exact this
theorem typed_len (ws : List Str) (x : Str) : (typed ws x).length ≤ x.length := by
  unfold typed
  split
  · exact cutS_length x none _
  · exact Nat.le_refl _
def sp_count_keys (K : PySem.W.Frag) : Sp := fun vs H Q _ => ∃ (a : Addr) (ws : List Str) (x : Str), vs = [.ref a, .str x] ∧ SqL K H a (ws.map V.str) ∧ x.length ≤ 1000 ∧ ∀ H', Kp [] H H' → Q (.int ((typed ws x).length + 1 : Int)) H'
theorem ok_count_keys (n : Nm mg) (c_typed_letters : GC P w K mg base 2 "typed_letters" (sp_typed_letters K)) {f : Addr} {fd : FuncData} (F : Fun K "count_keys" "count_keys" s_count_keys f fd) :
    GFn P w K mg base CX0 3 f fd ["book", "word"] (sp_count_keys K) := by
  have n_len := n.len_
  refine GFn.mk' F sc_count_keys (fun vs H Q E h => ?_) (fun cdv A outer s H vs Q E gd hr h => ?_)
  · obtain ⟨a, ws, x, rfl, _⟩ := h
    rfl
  obtain ⟨a, ws, x, rfl, h, hx, q⟩ := h
  refine ⟨_, (pss_one (ps_ret (pe_op (kou_add (K := K) rfl) (pe_callB (kcu_len (K := K) rfl) (by rfl) n_len (by decide +kernel) (pa_cons (pe_gc c_typed_letters gd hr (by decide) (by rfl) (pa_cons (pv 0) (pa_cons (pv 1) pa_nil))) pa_nil)) pe_int))), ?_⟩
  walk_at "go"
  refine ⟨a, ws, x, rfl, h, hx, fun H1 k1 => ?_⟩
  have tl2 := typed_len ws x
  walk_at "go"
  exact q _ k1
def sp__check_entry (K : PySem.W.Frag) : Sp := fun vs H Q _ => ∃ (a : Addr) (ws : List Str) (x : Str), vs = [.ref a, .str x] ∧ SqL K H a (ws.map V.str) ∧ ws.length < 3000 ∧ (∀ w ∈ ws, isW w = true) ∧ isW x = true ∧ NC (ws ++ [x]) ∧ ws.Nodup ∧
  ∀ H', Kp [] H H' → Q .non H'
theorem ok__check_entry (n : Nm mg) (c_check_book : GC P w K mg base 6 "check_book" (sp_check_book K)) (c_check_no_clash : GC P w K mg base 2 "check_no_clash" (sp_check_no_clash K)) (c_check_word : GC P w K mg base 3 "check_word" (sp_check_word K)) {f : Addr} {fd : FuncData} (F : Fun K "_check_entry" "_check_entry" s__check_entry f fd) :
    GFn P w K mg base CX0 7 f fd ["book", "word"] (sp__check_entry K) := by
  refine GFn.mk' F sc__check_entry (fun vs H Q E h => ?_) (fun cdv A outer s H vs Q E gd hr h => ?_)
  · obtain ⟨a, ws, x, rfl, _⟩ := h
    rfl
  obtain ⟨a, ws, x, rfl, h, hz, hw, hx, nc, nd, q⟩ := h
  refine ⟨_, (pss_cons (ps_expr (pe_gc c_check_book gd hr (by decide) (by rfl) (pa_cons (pv 0) pa_nil)))
      (pss_cons (ps_expr (pe_gc c_check_word gd hr (by decide) (by rfl) (pa_cons (pv 1) pa_nil)))
      (pss_one (ps_expr (pe_gc c_check_no_clash gd hr (by decide) (by rfl) (pa_cons (pe_lst (kpa_star (K := K) rfl (pv 0) (pa_cons (pv 1) pa_nil))) pa_nil)))))), ?_⟩
  walk_at "go"
  refine ⟨a, ws, rfl, h, by omega, hw, nc.sub (fun u h => by simp [h]), nd, fun H1 k1 => ?_⟩
  walk_at "go"
  refine ⟨x, rfl, hx, fun H2 k2 => ?_⟩
  walk_at "go"
  refine ⟨a, _, rfl, .inr ((k1.call0 k2).same.seq h), ?_⟩
  walk_at "go"
  intro p3 n_p3
  generalize g_H3 : upd _ p3 _ = H3
  obtain ⟨k_H3, e_p3⟩ := al_of n_p3 g_H3
  clear g_H3
  walk_at "go"
  refine ⟨p3, ws ++ [x], rfl, SqL.of ?_, by rw [List.length_append]; simp only [List.length_cons, List.length_nil]; omega, nc, fun H4 k4 => ?_⟩
  · rw [e_p3, List.map_append]
    rfl
  walk_at "go"
  exact q _ (((k1.call0 k2).call0 k_H3).call0 k4)
def spE (K : PySem.W.Frag) (f : List Str → Str → V) : Sp := fun vs H Q _ => ∃ (a : Addr) (ws : List Str) (x : Str), vs = [.ref a, .str x] ∧ SqL K H a (ws.map V.str) ∧ ws.length < 3000 ∧ (∀ w ∈ ws, isW w = true) ∧ isW x = true ∧ NC (ws ++ [x]) ∧ ws.Nodup ∧
  ∀ H', Kp [] H H' → Q (f ws x) H'
theorem isW_len {x : Str} (h : isW x = true) : x.length ≤ 12 := by
  simp only [isW, isT, Bool.and_eq_true, decide_eq_true_eq] at h
  exact h.1.1
def sp_keys_for (K : PySem.W.Frag) : Sp := spE K fun ws x => .int ((typed ws x).length + 1 : Int)
def sp_key_text (K : PySem.W.Frag) : Sp := spE K fun ws x => .str (typed ws x ++ "+")
theorem ok_keys_for (n : Nm mg) (c__check_entry : GC P w K mg base 7 "_check_entry" (sp__check_entry K)) (c_count_keys : GC P w K mg base 3 "count_keys" (sp_count_keys K)) {f : Addr} {fd : FuncData} (F : Fun K "keys_for" "keys_for" s_keys_for f fd) :
    GFn P w K mg base CX0 8 f fd ["book", "word"] (sp_keys_for K) := by
  refine GFn.mk' F sc_keys_for (fun vs H Q E h => ?_) (fun cdv A outer s H vs Q E gd hr h => ?_)
  · obtain ⟨a, ws, x, rfl, _⟩ := h
    rfl
  obtain ⟨a, ws, x, rfl, h, hz, hw, hx, nc, nd, q⟩ := h
  refine ⟨_, (pss_cons (ps_expr (pe_gc c__check_entry gd hr (by decide) (by rfl) (pa_cons (pv 0) (pa_cons (pv 1) pa_nil))))
      (pss_one (ps_ret (pe_gc c_count_keys gd hr (by decide) (by rfl) (pa_cons (pv 0) (pa_cons (pv 1) pa_nil)))))), ?_⟩
  walk_at "go"
  refine ⟨a, ws, x, rfl, h, hz, hw, hx, nc, nd, fun H1 k1 => ?_⟩
  walk_at "go"
  refine ⟨a, ws, x, rfl, k1.same.seq h, by have := isW_len hx; omega, fun H2 k2 => ?_⟩
  walk_at "go"
  exact q _ (k1.call0 k2)
theorem ok_key_text (n : Nm mg) (c__check_entry : GC P w K mg base 7 "_check_entry" (sp__check_entry K)) (c_typed_letters : GC P w K mg base 2 "typed_letters" (sp_typed_letters K)) {f : Addr} {fd : FuncData} (F : Fun K "key_text" "key_text" s_key_text f fd) :
    GFn P w K mg base CX0 8 f fd ["book", "word"] (sp_key_text K) := by
  refine GFn.mk' F sc_key_text (fun vs H Q E h => ?_) (fun cdv A outer s H vs Q E gd hr h => ?_)
  · obtain ⟨a, ws, x, rfl, _⟩ := h
    rfl
  obtain ⟨a, ws, x, rfl, h, hz, hw, hx, nc, nd, q⟩ := h
  refine ⟨_, (pss_cons (ps_expr (pe_gc c__check_entry gd hr (by decide) (by rfl) (pa_cons (pv 0) (pa_cons (pv 1) pa_nil))))
      (pss_one (ps_ret (pe_op (kou_add (K := K) rfl) (pe_gc c_typed_letters gd hr (by decide) (by rfl) (pa_cons (pv 0) (pa_cons (pv 1) pa_nil))) pe_str)))), ?_⟩
  walk_at "go"
  refine ⟨a, ws, x, rfl, h, hz, hw, hx, nc, nd, fun H1 k1 => ?_⟩
  walk_at "go"
  refine ⟨a, ws, x, rfl, k1.same.seq h, by have := isW_len hx; omega, fun H2 k2 => ?_⟩
  have tl2 := typed_len ws x
  have xl := isW_len hx
  have z : (typed ws x).length + ("+" : Str).length ≤ sizeLine := by rw [sizeLine_eq, show ("+" : Str).length = 1 by decide +kernel]; omega
  walk_at "go"
  exact q _ (k1.call0 k2)
end
end My
open PySem PySem.Spec PyProof.Rows L2 Gd

namespace My
section
variable {P : Program} {w : World} {K : PySem.W.Frag} {mg : Str → Option Value} {base : Heap}
theorem sw_take (o x : Str) : Txt.startswith o x = decide (cutT o x.length = x) := by
  have e : tl (cutT o x.length) = (tl o).take x.length := by
    unfold cutT
    rw [cut_to _ (by omega), Int.toNat_natCast]
  rw [Bool.eq_iff_iff, decide_eq_true_eq]
  unfold Txt.startswith
  rw [StrLaws.subAt_eq, List.drop_zero, Bool.and_eq_true, decide_eq_true_eq, beq_iff_eq]
  constructor
  · rintro ⟨_, h⟩
    exact TL.ext_tl (e.trans h)
  · intro h
    have h2 : (tl o).take x.length = tl x := by rw [← e, h]
    refine ⟨?_, h2⟩
    have := congrArg List.length h2
    rw [List.length_take, ← TL.len_tl, ← TL.len_tl] at this
    omega
theorem sug_last (ws : List Str) (x : Str) : sug ws x = (ws.filter fun o => decide (cutT o x.length = x)).getLast? := by
  unfold sug
  rw [show (fun o => decide (cutT o x.length = x)) = fun o => Txt.startswith o x from funext fun o => (sw_take o x).symm]
  rw [← List.head?_reverse, ← List.filter_reverse, List.head?_filter]
def sp__law_suggested (K : PySem.W.Frag) : Sp := fun vs H Q _ => ∃ (a : Addr) (ws : List Str) (x : Str), vs = [.ref a, .str x] ∧ SqL K H a (ws.map V.str) ∧ ws.length ≤ 3000 ∧ (∀ w ∈ ws, isW w = true) ∧ x.length ≤ 1000 ∧
  ∀ H', Kp [] H H' → Q (optV (sug ws x)) H'
theorem ok__law_suggested (n : Nm mg)  {f : Addr} {fd : FuncData} (F : Fun K "_law_suggested" "_law_suggested" s__law_suggested f fd) :
    GFn P w K mg base CX0 1 f fd ["shelf", "typed"] (sp__law_suggested K) := by
  have n_len := n.len_
  refine GFn.mk' F sc__law_suggested (fun vs H Q E h => ?_) (fun cdv A outer s H vs Q E gd hr h => ?_)
  · obtain ⟨a, ws, x, rfl, _⟩ := h
    rfl
  obtain ⟨a, ws, x, rfl, h, hl, hw, hx, q⟩ := h
  refine ⟨_, (pss_cons (ps_setLc (i := 2) (own := [("entry", 3)]) rfl sc__law_suggested.nd rfl rfl (sw_true rfl rfl rfl (by decide +kernel)) (kpi_u (K := K) rfl (pv 0)) (blkOk_by (own := [("entry", 3)]) (N := N__law_suggested) (sc := defScope s__law_suggested) (by decide +kernel)) (fun _ _ _ _ _ => (pg_name (i := 3) sc__law_suggested.nd rfl (.inl rfl))) (fun _ _ _ _ _ => (pts_one (pt_cmpR (kou_eq (K := K) rfl hr.units) (pe_slice (ksl_u (K := K) rfl) (pv 3) po_none (po_some (pe_callB (kcu_len (K := K) rfl) (by rfl) n_len (by decide +kernel) (pa_cons (pv 1) pa_nil)))) (pv 1) (nomark _)))) (fun _ _ _ _ _ => (pv 3)))
      (pss_one (ps_ret (pe_ifExp (pt_cmpR (kou_ne (K := K) rfl hr.units) (pv 2) (pe_lst pa_nil) (nomark _)) (pe_ix (kix_seq (K := K) rfl) (pv 2) (pe_un un_neg pe_int) (fun _ _ => rfl)) pe_non)))), ?_⟩
  walk_at "go"
  refine co_lF V.str (fun o => decide (cutT o x.length = x)) V.str h (sz100k (by omega)) (fun o ho C acc P H' k h hl r => ?_) (fun C H1 nC k1 hC => ?_)
  · have ol := isW_len (hw o ho)
    walk_at "go"
    refine ⟨rfl, ?_⟩
    walk_at "go"
    have rr := r _ Kp.refl
    refine ite2 (fun c => ?_) (fun c => ?_)
    · rw [show decide (cutT o x.length = x) = true from c] at rr
      walk_at "go"
      exact ⟨_, h, hl, rr⟩
    · rw [show decide (cutT o x.length = x) = false from decide_eq_false (by simpa [cutT] using c)] at rr
      exact rr
  · have hsub : ∀ w ∈ (ws.filter fun o => decide (cutT o x.length = x)), isW w = true := fun w h => hw w (List.mem_filter.mp h).1
    have e := sug_last ws x
    generalize (ws.filter fun o => decide (cutT o x.length = x)) = fs at *
    walk_at "go"
    intro p2 n_p2
    generalize g_H2 : upd _ p2 _ = H2
    obtain ⟨k_H2, e_p2⟩ := al_of n_p2 g_H2
    clear g_H2
    refine u_neN (k_H2.get0 hC) e_p2 (dp_strs fs) (shaped_strs fs fun w h => strOk_w (hsub w h)) ?_
    walk_at "go"
    have hn := q _ (k1.call0 k_H2)
    rw [e] at hn
    rcases List.eq_nil_or_concat fs with e2 | ⟨ys, v, e2⟩
    · subst e2
      refine ite2 (fun c => ?_) (fun c => ?_)
      · simp at c
      · walk_at "go"
        exact hn
    · rw [List.concat_eq_append] at e2
      subst e2
      refine ite2 (fun c => ?_) (fun c => ?_)
      · walk_at "go"
        refine u_ixL (SqL.of (k_H2.get0 hC)) (v := V.str v) (by rw [List.map_append]; exact atI_last _ _) ?_
        rw [List.getLast?_concat] at hn
        exact hn
      · simp at c
def sp__law_cell_at (K : PySem.W.Frag) : Sp := fun vs H Q _ => ∃ (a : Addr) (ns : List Int) (k : Nat), vs = [.ref a, .int k] ∧ SqL K H a (ns.map V.int) ∧ ns.length ≤ 63 ∧ ∀ H' c, Kp [] H H' → Q (.int c) H'
theorem ok__law_cell_at (n : Nm mg)  {f : Addr} {fd : FuncData} (F : Fun K "_law_cell_at" "_law_cell_at" s__law_cell_at f fd) :
    GFn P w K mg base CX0 1 f fd ["script", "k"] (sp__law_cell_at K) := by
  have n_len := n.len_
  refine GFn.mk' F sc__law_cell_at (fun vs H Q E h => ?_) (fun cdv A outer s H vs Q E gd hr h => ?_)
  · obtain ⟨a, ns, k, rfl, _⟩ := h
    rfl
  obtain ⟨a, ns, k, rfl, h, hl, q⟩ := h
  refine ⟨_, (pss_cons (ps_if (pt_cmpR ou_lt (pv 1) (pe_callB (kcu_len (K := K) rfl) (by rfl) n_len (by decide +kernel) (pa_cons (pv 0) pa_nil)) (nomark _))
      (pss_one (ps_ret (pe_ix (kix_seq (K := K) rfl) (pv 0) (pv 1) (fun _ _ => rfl))))
      pss_nil)
      (pss_one (ps_ret pe_int))), ?_⟩
  walk_at "go"
  refine u_lenL h ?_
  walk_at "go"
  refine ite2 (fun c => ?_) (fun c => ?_)
  · walk_at "go"
    simp only [List.length_map, decide_eq_true_eq] at c
    obtain ⟨v, ev, mv⟩ := atI_lt (xs := ns.map V.int) (i := (k : Int)) (by omega) (by rw [List.length_map]; exact c)
    obtain ⟨z, _, rfl⟩ := List.mem_map.mp mv
    refine u_ixL h ev ?_
    exact q _ z Kp.refl
  · walk_at "go"
    exact q _ 0 Kp.refl
/-! the letters that are typed, played -/
theorem cutT_all (x : Str) : cutT x x.length = x := by
  refine TL.ext_tl ?_
  show tl _ = tl x
  unfold cutT
  rw [cut_to _ (by omega), Int.toNat_natCast, List.take_of_length_le (by rw [← TL.len_tl]; omega)]
theorem cutT_len {x : Str} {l : Nat} (h : l ≤ x.length) : (cutT x l).length = l := by
  rw [TL.len_tl]
  unfold cutT
  show (tl _).length = l
  rw [cut_to _ (by omega), List.length_take, ← TL.len_tl]
  omega
theorem typed_is {ws : List Str} {x : Str} {l : Nat} (hl : l ≤ x.length) (no : ∀ i, i < l → sug ws (cutT x i) ≠ some x) (yes : l < x.length → sug ws (cutT x l) = some x) : typed ws x = cutT x l := by
  unfold typed
  by_cases c : l < x.length
  · have e : typ ws x = some l := by
      unfold typ
      rw [List.find?_range_eq_some]
      refine ⟨by simpa using yes c, by simpa using c, fun i hi => ?_⟩
      have := no i hi
      simpa using this
    rw [e]
  · have e0 : l = x.length := by omega
    have e : typ ws x = none := by
      unfold typ
      rw [List.find?_eq_none]
      intro i hi
      have := no i (by rw [e0]; simpa using hi)
      simpa using this
    rw [e, e0, cutT_all]
theorem u_neO {H : Hp} {Q : VK} {o : Option Str} {x : Str} (q : Q (.bl (!(o == some x))) H) : uNe K (optV o) (.str x) H Q := by
  cases o with
  | none =>
    refine .inl ⟨rfl, ?_⟩
    rw [decide_eq_false (by simp [optV])]
    exact q
  | some y =>
    refine u_neS ?_
    rw [show (some y == some x) = decide (y = x) by by_cases e : y = x <;> simp [e]] at q
    exact q
def sp__law_typed (K : PySem.W.Frag) : Sp := fun vs H Q _ => ∃ (a : Addr) (ws : List Str) (x : Str), vs = [.ref a, .str x] ∧ SqL K H a (ws.map V.str) ∧ ws.length ≤ 3000 ∧ (∀ w ∈ ws, isW w = true) ∧ x.length ≤ 12 ∧
  ∀ H' p zs z, Kp [] H H' → H p = none → H' p = some (.lst ((zs ++ [z]).map V.str)) → z = typed ws x → Q (.ref p) H'
theorem ok__law_typed (n : Nm mg) (c__law_suggested : GC P w K mg base 1 "_law_suggested" (sp__law_suggested K)) {f : Addr} {fd : FuncData} (F : Fun K "_law_typed" "_law_typed" s__law_typed f fd) :
    GFn P w K mg base CX0 2 f fd ["shelf", "entry"] (sp__law_typed K) := by
  have n_len := n.len_
  refine GFn.mk' F sc__law_typed (fun vs H Q E h => ?_) (fun cdv A outer s H vs Q E gd hr h => ?_)
  · obtain ⟨a, ws, x, rfl, _⟩ := h
    rfl
  obtain ⟨a, ws, x, rfl, h, hl, hw, hx, q⟩ := h
  refine ⟨_, (pss_cons (ps_set (i := 2) sc__law_typed.nd rfl (.inl rfl) (pe_lst (pa_cons pe_str pa_nil)))
      (pss_cons (ps_while PassesOwn.never (PW.pt (pw_and (pt_cmpR (kou_ne (K := K) rfl hr.units) (pe_gc c__law_suggested gd hr (by decide) (by rfl) (pa_cons (pv 0) (pa_cons (pe_ix (kix_seq (K := K) rfl) (pv 2) (pe_un un_neg pe_int) (fun _ _ => rfl)) pa_nil))) (pv 1) (nomark _)) (pw_and1 (pt_cmpR ou_lt (pe_callB (kcu_len (K := K) rfl) (by rfl) n_len (by decide +kernel) (pa_cons (pe_ix (kix_seq (K := K) rfl) (pv 2) (pe_un un_neg pe_int) (fun _ _ => rfl)) pa_nil)) (pe_callB (kcu_len (K := K) rfl) (by rfl) n_len (by decide +kernel) (pa_cons (pv 1) pa_nil)) (nomark _)))))
      (pss_one (ps_expr (kpe_bm (K := K) rfl PySem.F.plainAttrs_list PySem.F.slot_list_append PySem.F.type_list_append mt_append (pv 2) (pa_cons (pe_slice (ksl_u (K := K) rfl) (pv 1) po_none (po_some (pe_op (kou_add (K := K) rfl) (pe_callB (kcu_len (K := K) rfl) (by rfl) n_len (by decide +kernel) (pa_cons (pe_ix (kix_seq (K := K) rfl) (pv 2) (pe_un un_neg pe_int) (fun _ _ => rfl)) pa_nil)) pe_int))) pa_nil)))))
      (pss_one (ps_ret (pv 2))))), ?_⟩
  walk_at "go"
  intro p1 n_p1
  generalize g_H1 : upd _ p1 _ = H1
  obtain ⟨k_H1, e_p1⟩ := al_of n_p1 g_H1
  clear g_H1
  walk_at "go"
  refine ⟨fun m σ H' => ∃ (l : Nat) (zs : List Str), σ = [some (.ref a), some (.str x), some (.ref p1)] ∧ m = x.length - l ∧ l ≤ x.length ∧ Kp [] H H' ∧ H' p1 = some (.lst ((zs ++ [cutT x l]).map V.str)) ∧ zs.length = l ∧
    ∀ i, i < l → sug ws (cutT x i) ≠ some x, ⟨x.length, 0, [], rfl, rfl, Nat.zero_le _, k_H1, ?_, rfl, fun i h => by omega⟩, ?_⟩
  · rw [e_p1]
    congr 1
  rintro m σ H2 ⟨l, zs, rfl, rfl, hle, k2, e2, zl, no⟩
  have at1 : ∀ {H'}, H' p1 = some (.lst ((zs ++ [cutT x l]).map V.str)) → SqL K H' p1 ((zs ++ [cutT x l]).map V.str) := fun h => SqL.of h
  have la : atI ((zs ++ [cutT x l]).map V.str) (-1) = some (V.str (cutT x l)) := by
    rw [List.map_append]
    exact atI_last _ _
  have cl := cutT_len hle
  walk_at "go"
  refine u_ixL (at1 e2) la ?_
  walk_at "go"
  refine ⟨a, ws, cutT x l, rfl, k2.same.seq h, hl, hw, by omega, fun H3 k3 => ?_⟩
  have e3 := k3.get0 e2
  walk_at "go"
  refine u_neO ?_
  walk_at "go"
  have K3 := k2.call0 k3
  have stop : typed ws x = cutT x l → Q (.ref p1) H3 := fun e => q _ p1 zs _ K3 n_p1 e3 e.symm
  refine ite2 (fun c => ?_) (fun c => ?_)
  · have ne : sug ws (cutT x l) ≠ some x := by simpa using c
    walk_at "go"
    refine u_ixL (at1 e3) la ?_
    walk_at "go"
    refine ite2 (fun c2 => ?_) (fun c2 => ?_)
    · have lt : l < x.length := by
        simp only [decide_eq_true_eq] at c2
        omega
      refine ⟨fun σ H' => ∃ m', m' < x.length - l ∧ ∃ (l : Nat) (zs : List Str), σ = [some (.ref a), some (.str x), some (.ref p1)] ∧ m' = x.length - l ∧ l ≤ x.length ∧ Kp [] H H' ∧ H' p1 = some (.lst ((zs ++ [cutT x l]).map V.str)) ∧ zs.length = l ∧
        ∀ i, i < l → sug ws (cutT x i) ≠ some x, fun _ _ h => h, ?_⟩
      walk_at "go"
      refine ty_l e3 ?_
      walk_at "go"
      refine u_ixL (at1 e3) la ?_
      walk_at "go"
      refine u_app e3 (by rw [sizeLine_eq, List.length_map, List.length_append]; simp only [List.length_cons, List.length_nil]; omega) ?_
      refine ⟨x.length - (l + 1), by omega, l + 1, zs ++ [cutT x l], rfl, rfl, lt, K3.mutN n_p1, ?_, by simp [zl], fun i hi => ?_⟩
      · rw [upd_same, cl]
        simp [cutT]
      · by_cases e : i = l
        · rw [e]; exact ne
        · exact no i (by omega)
    · walk_at "go"
      refine stop (typed_is hle no fun lt => ?_)
      simp only [decide_eq_true_eq] at c2
      omega
  · walk_at "go"
    exact stop (typed_is hle no fun _ => by simpa using c)
end
end My
open PySem PySem.Spec PyProof.Rows L2 Gd

namespace My
section
variable {P : Program} {w : World} {K : PySem.W.Frag} {mg : Str → Option Value} {base : Heap}
theorem strChars {s : Str} (h : isW s = true) : ∀ c ∈ tl s, c < 1114112 := fun c hc => by
  simp only [isW, isT, Bool.and_eq_true, decide_eq_true_eq, List.all_eq_true] at h
  have := h.1.2 c hc
  simp only [low, decide_eq_true_eq] at this
  omega
def sp__law_right (K : PySem.W.Frag) : Sp := fun vs H Q _ => ∃ (a : Addr) (ws : List Str) (x : Str), vs = [.ref a, .str x] ∧ H a = some (.lst (ws.map V.str)) ∧ ws.length < 3000 ∧ (∀ w ∈ ws, isW w = true) ∧ isW x = true ∧ NC (ws ++ [x]) ∧ ws.Nodup ∧
  ∀ H', Kp [] H H' → Q (.bl true) H'
theorem ok__law_right (n : Nm mg) (c__law_typed : GC P w K mg base 2 "_law_typed" (sp__law_typed K)) (c_key_text : GC P w K mg base 8 "key_text" (sp_key_text K)) (c_keys_for : GC P w K mg base 8 "keys_for" (sp_keys_for K)) (kw_key_text_word_book : GK P w K mg base 8 "key_text" ["word", "book"] [1, 0] (sp_key_text K)) (kw_keys_for_word_book : GK P w K mg base 8 "keys_for" ["word", "book"] [1, 0] (sp_keys_for K)) {f : Addr} {fd : FuncData} (F : Fun K "_law_right" "_law_right" s__law_right f fd) :
    GFn P w K mg base CX0 9 f fd ["shelf", "entry"] (sp__law_right K) := by
  have n_len := n.len_
  have n_repr := n.repr_
  refine GFn.mk' F sc__law_right (fun vs H Q E h => ?_) (fun cdv A outer s H vs Q E gd hr h => ?_)
  · obtain ⟨a, ws, x, rfl, _⟩ := h
    rfl
  obtain ⟨a, ws, x, rfl, h, hz, hw, hx, nc, nd, q⟩ := h
  refine ⟨_, (pss_cons (ps_par (i := 2) (j := 3) rfl sc__law_right.nd rfl rfl (by decide) rfl rfl (pa_cons (pe_callB (cu_repr gd (hrep hr)) (by rfl) n_repr (by decide +kernel) (pa_cons (pv 0) pa_nil)) (pa_cons (pe_ix (kix_seq (K := K) rfl) (pe_gc c__law_typed gd hr (by decide) (by rfl) (pa_cons (pv 0) (pa_cons (pv 1) pa_nil))) (pe_un un_neg pe_int) (fun _ _ => rfl)) pa_nil)) (by rfl))
      (pss_cons (ps_set (i := 4) sc__law_right.nd rfl (.inl rfl) (pe_lst (pa_cons (pe_gc c_keys_for gd hr (by decide) (by rfl) (pa_cons (pv 0) (pa_cons (pv 1) pa_nil))) (pa_cons (pe_gc c_key_text gd hr (by decide) (by rfl) (pa_cons (pv 0) (pa_cons (pv 1) pa_nil))) pa_nil))))
      (pss_cons (ps_set (i := 4) sc__law_right.nd rfl (.inl rfl) (pe_op (kou_add (K := K) rfl) (pv 4) (pe_lst (pa_cons (pe_gck kw_keys_for_word_book gd hr (by decide) (by rfl) (by rfl) (pk_cons (pv 1) (pk_cons (pv 0) pk_nil))) (pa_cons (pe_gck kw_key_text_word_book gd hr (by decide) (by rfl) (by rfl) (pk_cons (pv 1) (pk_cons (pv 0) pk_nil))) pa_nil)))))
      (pss_cons (ps_set (i := 5) sc__law_right.nd rfl (.inl rfl) (pe_op ou_mul (pe_lst (pa_cons (pe_op (kou_add (K := K) rfl) (pe_callB (kcu_len (K := K) rfl) (by rfl) n_len (by decide +kernel) (pa_cons (pv 3) pa_nil)) pe_int) (pa_cons (pe_op (kou_add (K := K) rfl) (pv 3) pe_str) pa_nil))) pe_int))
      (pss_one (ps_ret (kpe_andT (K := K) rfl (pe_cmpR (kou_eq (K := K) rfl hr.units) (pe_callB (cu_repr gd (hrep hr)) (by rfl) n_repr (by decide +kernel) (pa_cons (pv 4) pa_nil)) (pe_callB (cu_repr gd (hrep hr)) (by rfl) n_repr (by decide +kernel) (pa_cons (pv 5) pa_nil)) (nomark _)) (pe_one (pe_cmpR (kou_eq (K := K) rfl hr.units) (pe_callB (cu_repr gd (hrep hr)) (by rfl) n_repr (by decide +kernel) (pa_cons (pv 0) pa_nil)) (pv 2) (nomark _)))))))))), ?_⟩
  have xl := isW_len hx
  have hd : ∀ H', H' a = some (.lst (ws.map V.str)) → DqT (fun _ => True) H' (.ref a) (.list (ws.map PyData.str)) := fun H' h => .of (.lst trivial h (dqL_strs ws))
  have sd : Sm (.list (ws.map PyData.str)) := sm_strs (n := 3000) (m := 12) (by omega) (fun u h => ⟨isW_len (hw u h), strChars (hw u h)⟩) (by decide)
  walk_at "go"
  refine u_repr (hd _ h) sd ?_
  walk_at "go"
  refine ⟨a, ws, x, rfl, SqL.of h, by omega, hw, xl, fun H1 p1 zs z k1 n1 e1 ez => ?_⟩
  walk_at "go"
  refine u_ixL (SqL.of e1) (v := V.str z) (by rw [List.map_append]; exact atI_last _ _) ?_
  have h1 := k1.get0 h
  have zl : z.length ≤ 12 := by rw [ez]; exact Nat.le_trans (typed_len ws x) xl
  have zc : ∀ c ∈ tl z, c < 1114112 := by
    rw [ez]
    unfold typed
    split
    · exact fun c hc => strChars hx c (cut_mem hc)
    · exact strChars hx
  walk_at "go"
  refine ⟨a, ws, x, rfl, SqL.of h1, hz, hw, hx, nc, nd, fun H2 k2 => ?_⟩
  have h2 := k2.get0 h1
  walk_at "go"
  refine ⟨a, ws, x, rfl, SqL.of h2, hz, hw, hx, nc, nd, fun H3 k3 => ?_⟩
  have h3 := k3.get0 h2
  walk_at "go"
  intro p4 n_p4
  generalize g_H4 : upd _ p4 _ = H4
  obtain ⟨k_H4, e_p4⟩ := al_of n_p4 g_H4
  clear g_H4
  have h4 := k_H4.get0 h3
  walk_at "go"
  refine rd_kw ?_
  walk_at "go"
  refine ⟨rfl, a, ws, x, rfl, SqL.of h4, hz, hw, hx, nc, nd, fun H5 k5 => ?_⟩
  have h5 := k5.get0 h4
  walk_at "go"
  refine rd_kw ?_
  walk_at "go"
  refine ⟨rfl, a, ws, x, rfl, SqL.of h5, hz, hw, hx, nc, nd, fun H6 k6 => ?_⟩
  have h6 := k6.get0 h5
  walk_at "go"
  intro p7 n_p7
  generalize g_H7 : upd _ p7 _ = H7
  obtain ⟨k_H7, e_p7⟩ := al_of n_p7 g_H7
  clear g_H7
  have p47 := k_H7.get0 (k6.get0 (k5.get0 e_p4))
  refine u_addL (SqL.of p47) (SqL.of e_p7) (by rw [sizeLine_eq]; simp) ?_
  intro p8 n_p8
  generalize g_H8 : upd _ p8 _ = H8
  obtain ⟨k_H8, e_p8⟩ := al_of n_p8 g_H8
  clear g_H8
  walk_at "go"
  have plus : ("+" : Str).length = 1 := by decide +kernel
  have z2 : z.length + ("+" : Str).length ≤ sizeLine := by rw [sizeLine_eq, plus]; omega
  try refine u_addS z2 ?_
  walk_at "go"
  intro p9 n_p9
  generalize g_H9 : upd _ p9 _ = H9
  obtain ⟨k_H9, e_p9⟩ := al_of n_p9 g_H9
  clear g_H9
  refine ⟨_, e_p9, by decide, by decide, by show 2 * 2 ≤ sizeLine; rw [sizeLine_eq]; decide, ?_⟩
  intro p10 n_p10
  generalize g_H10 : upd _ p10 _ = H10
  obtain ⟨k_H10, e_p10⟩ := al_of n_p10 g_H10
  clear g_H10
  have kk := ((((((((k1.call0 k2).call0 k3).call0 k_H4).call0 k5).call0 k6).call0 k_H7).call0 k_H8).call0 k_H9).call0 k_H10
  have h10 := kk.get0 h
  have e8 : H8 p8 = some (.lst [V.int (z.length + 1 : Int), V.str (z ++ "+"), V.int (z.length + 1 : Int), V.str (z ++ "+")]) := by
    rw [ez]
    exact e_p8
  have d8 : ∀ p H', H' p = some (.lst [V.int (z.length + 1 : Int), V.str (z ++ "+"), V.int (z.length + 1 : Int), V.str (z ++ "+")]) → DqT (fun _ => True) H' (.ref p)
      (.list [.int (z.length + 1 : Int), .str (z ++ "+"), .int (z.length + 1 : Int), .str (z ++ "+")]) := fun p H' h => .of (.lst trivial h (.cons (.int _) (.cons (.str _) (.cons (.int _) (.cons (.str _) .nil)))))
  have s8 : Sm (.list [.int (z.length + 1 : Int), .str (z ++ "+"), .int (z.length + 1 : Int), .str (z ++ "+")]) := by
    have li : ((z.length : Int) + 1).natAbs.log2 < 1900 := by
      have := log_small (j := (z.length : Int) + 1) (by omega)
      have h64 : ((z.length : Int) + 1).natAbs < 2 ^ 64 := by omega
      have := PySem.Flt.log2_lt_of (show 0 < 64 by decide) h64
      omega
    have lc : (tl (z ++ "+")).all (fun c => decide (c < 1114112)) = true := by
      rw [List.all_eq_true]
      intro c hc
      rw [decide_eq_true_eq]
      rcases mem_app.mp hc with h | h
      · exact zc c h
      · exact (show ∀ c ∈ tl ("+" : Str), c < 1114112 by decide +kernel) c h
    refine ⟨?_, ?_, by simp [PyData.depth, PyData.depthAll]⟩
    · simp only [fine, fineAll, lc, decide_eq_true li, Bool.and_self]
    · simp only [sz, szAll, len_app, plus]
      omega
  walk_at "go"
  refine u_repr (d8 p8 _ ((k_H9.call0 k_H10).get0 e8)) s8 ?_
  walk_at "go"
  refine u_repr (d8 p10 _ e_p10) s8 ?_
  walk_at "go"
  rw [decide_eq_true rfl]
  walk_at "go"
  refine u_repr (hd _ h10) sd ?_
  walk_at "go"
  rw [decide_eq_true rfl]
  exact q _ kk
end
end My
open PySem PySem.Spec PyProof.Rows L2 Gd

namespace My
section
variable {P : Program} {w : World} {K : PySem.W.Frag} {mg : Str → Option Value} {base : Heap}
theorem eqv_strs : ∀ ws us : List Str, PyData.eqvAll (ws.map PyData.str) (us.map PyData.str) = decide (ws = us)
  | [], [] => by simp [PyData.eqvAll]
  | [], u :: us => by simp [PyData.eqvAll]
  | w :: ws, [] => by simp [PyData.eqvAll]
  | w :: ws, u :: us => by
    have ih := eqv_strs ws us
    by_cases e : w = u
    · simp [PyData.eqvAll, PyData.eqv, ih, e]
    · simp [PyData.eqvAll, PyData.eqv, ih, e]
theorem pw_all {α : Type} {R : α → α → Prop} (sy : ∀ x y, R x y → R y x) : ∀ {l : List α}, l.Pairwise R → ∀ x ∈ l, ∀ y ∈ l, x ≠ y → R x y
  | [], _, x, hx, _, _, _ => by cases hx
  | a :: l, p, x, hx, y, hy, n => by
    obtain ⟨h1, h2⟩ := List.pairwise_cons.mp p
    rcases List.mem_cons.mp hx with e1 | hx
    · rcases List.mem_cons.mp hy with e2 | hy
      · exact absurd (e1.trans e2.symm) n
      · rw [e1]
        exact h1 y hy
    · rcases List.mem_cons.mp hy with e2 | hy
      · rw [e2]
        exact sy _ _ (h1 x hx)
      · exact pw_all sy h2 x hx y hy n
theorem nc_fits {ws : List Str} (h : ws.Pairwise fun o x => fits x o = true) : NC ws := by
  have key := pw_all (R := fun x y => Txt.startswith y x = false ∧ Txt.startswith x y = false) (fun x y h => h.symm) (h.imp fun {o x} h => by
    simp only [fits, Bool.not_eq_true', Bool.or_eq_false_iff] at h
    exact ⟨h.2, h.1⟩)
  exact fun x hx y hy e => (key x hx y hy e).1
theorem okW_isW {s : Str} (h : okW s) : isW s = true := by
  simp only [isW, isT, Bool.and_eq_true, decide_eq_true_eq, List.all_eq_true]
  exact ⟨⟨h.2.1, fun c hc => by simp only [low, decide_eq_true_eq]; exact h.2.2 c hc⟩, h.1⟩
def sp__law_fresh (K : PySem.W.Frag) : Sp := fun vs H Q _ => ∃ (a b : Addr) (n : Nat) (ws : List Str), vs = [.ref a, .ref b] ∧ Src H a n ∧ n < 2 ^ 40 ∧ H b = some (.lst (ws.map V.str)) ∧ b ≠ a ∧ Bk ws 120 ∧
  ∀ H' o, Kp [a] H H' → Src H' a (n + 50) → (∀ x, o = some x → okW x ∧ NC (ws ++ [x])) → Q (optV o) H'
theorem ok__law_fresh (n : Nm mg) (c__law_apart : GC P w K mg base 1 "_law_apart" (sp__law_apart K)) (c__law_draw : GC P w K mg base 1 "_law_draw" (sp__law_draw K)) (c__law_spelled : GC P w K mg base 2 "_law_spelled" (sp__law_spelled K)) {f : Addr} {fd : FuncData} (F : Fun K "_law_fresh" "_law_fresh" s__law_fresh f fd) :
    GFn P w K mg base CX0 3 f fd ["pool", "shelf"] (sp__law_fresh K) := by
  have n_len := n.len_
  refine GFn.mk' F sc__law_fresh (fun vs H Q E h => ?_) (fun cdv A outer s H vs Q E gd hr h => ?_)
  · obtain ⟨a, b, n, ws, rfl, _⟩ := h
    rfl
  obtain ⟨a, b, n', ws, rfl, hS, hn, hb, ba, B, q⟩ := h
  refine ⟨_, (pss_cons (ps_if (pt_cmpR (kou_eq (K := K) rfl hr.units) (pv 1) (pe_lst pa_nil) (nomark _))
      (pss_one (ps_ret (pe_gc c__law_spelled gd hr (by decide) (by rfl) (pa_cons (pv 0) (pa_cons pe_str (pa_cons (pe_op (kou_add (K := K) rfl) pe_int (pe_gc c__law_draw gd hr (by decide) (by rfl) (pa_cons (pv 0) (pa_cons pe_int pa_nil)))) pa_nil))))))
      pss_nil)
      (pss_cons (ps_set (i := 2) sc__law_fresh.nd rfl (.inl rfl) (pe_ix (kix_seq (K := K) rfl) (pv 1) (pe_gc c__law_draw gd hr (by decide) (by rfl) (pa_cons (pv 0) (pa_cons (pe_callB (kcu_len (K := K) rfl) (by rfl) n_len (by decide +kernel) (pa_cons (pv 1) pa_nil)) pa_nil))) (fun _ _ => rfl)))
      (pss_cons (ps_set (i := 3) sc__law_fresh.nd rfl (.inl rfl) (pe_gc c__law_draw gd hr (by decide) (by rfl) (pa_cons (pv 0) (pa_cons (pe_callB (kcu_len (K := K) rfl) (by rfl) n_len (by decide +kernel) (pa_cons (pv 2) pa_nil)) pa_nil))))
      (pss_cons (ps_set (i := 4) sc__law_fresh.nd rfl (.inl rfl) (pe_slice (ksl_u (K := K) rfl) (pe_op (kou_add (K := K) rfl) (pe_slice (ksl_u (K := K) rfl) (pv 2) po_none (po_some (pv 3))) (pe_gc c__law_spelled gd hr (by decide) (by rfl) (pa_cons (pv 0) (pa_cons pe_str (pa_cons (pe_op (kou_add (K := K) rfl) pe_int (pe_gc c__law_draw gd hr (by decide) (by rfl) (pa_cons (pv 0) (pa_cons pe_int pa_nil)))) pa_nil))))) po_none (po_some pe_int)))
      (pss_one (ps_ret (pe_ifExp (pt_cmpR (kou_eq (K := K) rfl hr.units) (pe_gc c__law_apart gd hr (by decide) (by rfl) (pa_cons (pe_op (kou_add (K := K) rfl) (pv 1) (pe_lst (pa_cons (pv 4) pa_nil))) pa_nil)) (pe_op (kou_add (K := K) rfl) (pv 1) (pe_lst (pa_cons (pv 4) pa_nil))) (nomark _)) (pv 4) pe_non))))))), ?_⟩
  have hl := B.len
  walk_at "go"
  intro p1 n_p1
  generalize g_H1 : upd _ p1 _ = H1
  obtain ⟨k_H1, e_p1⟩ := al_of n_p1 g_H1
  clear g_H1
  refine u_eqN (k_H1.get0 hb) e_p1 (dp_strs ws) (shaped_strs ws fun w h => strOk_w (okW_isW (B.ok w h))) ?_
  have b1 := k_H1.get0 hb
  have S1 := hS.kp k_H1
  walk_at "go"
  refine ite2 (fun c => ?_) (fun c => ?_)
  · have e0 : ws = [] := by
      cases ws with
      | nil => rfl
      | cons _ _ => simp at c
    walk_at "go"
    refine ⟨a, _, 12, rfl, S1, by omega, by decide, by decide, fun H2 d k2 S2 d0 d1 => ?_⟩
    walk_at "go"
    refine ⟨a, _, (1 + d).toNat, "xyz", by rw [Int.toNat_of_nonneg (by omega)]; rfl, S2, by omega, by decide, by decide, by omega, fun H3 z k3 S3 zl zc => ?_⟩
    walk_at "go"
    refine q H3 (some z) ((k_H1.wide.call1 k2 (by simp)).call1 k3 (by simp)) (S3.mono (by omega)) fun x e => ?_
    cases e
    refine ⟨⟨by omega, by omega, fun c hc => (show ∀ c ∈ tl ("xyz" : Str), 97 ≤ c ∧ c ≤ 122 by decide +kernel) c (zc c hc)⟩, ?_⟩
    subst e0
    intro x hx y hy ne
    simp only [List.nil_append, List.mem_singleton] at hx hy
    exact absurd (hx.trans hy.symm) ne
  · have hne : 0 < ws.length := by
      cases ws with
      | nil => simp at c
      | cons _ _ => simp
    walk_at "go"
    refine u_lenL (SqL.of b1) ?_
    walk_at "go"
    refine ⟨a, _, _, rfl, S1, by omega, by rw [List.length_map]; omega, log_small (by rw [List.length_map]; omega), fun H2 d k2 S2 d0 d1 => ?_⟩
    walk_at "go"
    obtain ⟨v, ev, mv⟩ := atI_lt (xs := ws.map V.str) d0 d1
    obtain ⟨near, hnear, rfl⟩ := List.mem_map.mp mv
    have ok0 := B.ok near hnear
    have nl : near.length ≤ 12 := ok0.2.1
    have nl0 : 1 ≤ near.length := ok0.1
    have b2 := k2.get1 b1 ba
    refine u_ixL (SqL.of b2) ev ?_
    walk_at "go"
    refine ⟨a, _, _, rfl, S2, by omega, by have := ok0.1; omega, log_small (by have := ok0.2.1; omega), fun H3 cut k3 S3 cut0 cut1 => ?_⟩
    walk_at "go"
    refine ⟨a, _, 4, rfl, S3, by omega, by decide, by decide, fun H4 e k4 S4 e0 e1 => ?_⟩
    walk_at "go"
    refine ⟨a, _, (1 + e).toNat, "abcz", by rw [Int.toNat_of_nonneg (by omega)]; rfl, S4, by omega, by decide, by decide, by omega, fun H5 z k5 S5 zl zc => ?_⟩
    have hs : (cutS near none (some cut)).length ≤ near.length := cutS_length near none _
    have z1 : (cutS near none (some cut)).length + z.length ≤ sizeLine := by rw [sizeLine_eq]; omega
    walk_at "go"
    try (refine u_addS z1 ?_)
    walk_at "go"
    try (refine u_slS (by rw [len_app]; exact z1) ?_)
    walk_at "go"
    have okx : okW (cutS (cutS near none (some cut) ++ z) none (some 12)) := by
      have cl2 := cut_to_len (cutS near none (some cut) ++ z) (show (0 : Int) ≤ 12 by decide)
      rw [len_app] at cl2
      refine ⟨by omega, by omega, fun c hc => ?_⟩
      rcases mem_app.mp (cut_mem hc) with h | h
      · exact ok0.2.2 c (cut_mem h)
      · exact (show ∀ c ∈ tl ("abcz" : Str), 97 ≤ c ∧ c ≤ 122 by decide +kernel) c (zc c h)
    generalize cutS (cutS near none (some cut) ++ z) none (some 12) = x at *
    have K5 : Kp [a] H H5 := (((k_H1.wide.call1 k2 (by simp)).call1 k3 (by simp)).call1 k4 (by simp)).call1 k5 (by simp)
    have b5 := K5.get1 hb ba
    intro p6 n_p6
    generalize g_H6 : upd _ p6 _ = H6
    obtain ⟨k_H6, e_p6⟩ := al_of n_p6 g_H6
    clear g_H6
    refine u_addL (SqL.of (k_H6.get0 b5)) (SqL.of e_p6) (by rw [sizeLine_eq, List.length_map]; simp only [List.length_cons, List.length_nil]; omega) ?_
    intro p7 n_p7
    generalize g_H7 : upd _ p7 _ = H7
    obtain ⟨k_H7, e_p7⟩ := al_of n_p7 g_H7
    clear g_H7
    rw [show ws.map V.str ++ [V.str x] = (ws ++ [x]).map V.str by simp] at e_p7
    walk_at "go"
    refine ⟨p7, _, rfl, SqL.of e_p7, by rw [List.length_append]; simp only [List.length_cons, List.length_nil]; omega, fun H8 p8 k8 n8 e8 => ?_⟩
    walk_at "go"
    have k58 := (k_H6.call0 k_H7).call0 k8
    intro p9 n_p9
    generalize g_H9 : upd _ p9 _ = H9
    obtain ⟨k_H9, e_p9⟩ := al_of n_p9 g_H9
    clear g_H9
    refine u_addL (SqL.of (k_H9.get0 (k58.get0 b5))) (SqL.of e_p9) (by rw [sizeLine_eq, List.length_map]; simp only [List.length_cons, List.length_nil]; omega) ?_
    intro p10 n_p10
    generalize g_H10 : upd _ p10 _ = H10
    obtain ⟨k_H10, e_p10⟩ := al_of n_p10 g_H10
    clear g_H10
    rw [show ws.map V.str ++ [V.str x] = (ws ++ [x]).map V.str by simp] at e_p10
    have all1 : ∀ w ∈ ws ++ [x], PyData.strOk w = true := fun w h => by
      rcases List.mem_append.mp h with h | h
      · exact strOk_w (okW_isW (B.ok w h))
      · rw [List.mem_singleton.mp h]
        exact strOk_w (okW_isW okx)
    refine u_eqD (.lst (SqL.of (k_H10.get0 (k_H9.get0 e8))) (dp_strs _)) (.lst (SqL.of e_p10) (dp_strs _)) (shaped_strs _ fun w h => all1 w ((apart_ok _).1 w h)) (shaped_strs _ all1) ?_
    rw [PyData.eqv, eqv_strs]
    have KK := K5.call0 ((k58.call0 k_H9).call0 k_H10)
    have SS := ((((S5.kp k_H6).kp k_H7).kp k8).kp k_H9).kp k_H10
    walk_at "go"
    refine ite2 (fun c => ?_) (fun c => ?_)
    · walk_at "go"
      refine q H10 (some x) KK (SS.mono (by omega)) fun y e => ?_
      cases e
      refine ⟨okx, ?_⟩
      have ap := (apart_ok (ws ++ [x])).2
      rw [of_decide_eq_true c] at ap
      exact nc_fits ap
    · walk_at "go"
      exact q H10 none KK (SS.mono (by omega)) fun y e => nomatch e
end
end My
open PySem PySem.Spec PyProof.Rows L2 Gd

namespace My
section
variable {P : Program} {w : World} {K : PySem.W.Frag} {mg : Str → Option Value} {base : Heap}
def Ent (ws : List Str) (v : V) : Prop := v = .non ∨ ∃ x, v = .str x ∧ okW x ∧ NC (ws ++ [x])
theorem Bk.nodup {ws : List Str} {n : Nat} (B : Bk ws n) : ws.Nodup := by
  refine B.ap.imp fun {o x} h e => ?_
  subst e
  simp [fits, Txt.startswith, Builtin.Str.subAt, Str.length] at h
theorem ent_word {ws : List Str} {n : Nat} (B : Bk ws n) {x : Str} (h : x ∈ ws) : Ent ws (.str x) :=
  .inr ⟨x, rfl, B.ok x h, (nc_fits B.ap).sub fun u hu => by
    rcases List.mem_append.mp hu with h1 | h1
    · exact h1
    · rw [List.mem_singleton.mp h1]; exact h⟩
def sp_law (K : PySem.W.Frag) : Sp := fun vs H Q _ => ∃ (a : Addr) (ns : List Int), vs = [.ref a] ∧ ns.length ≤ 63 ∧ SqL K H a (ns.map V.int) ∧ ∀ H', Q (.bl true) H'
theorem start_law {K : PySem.W.Frag} {H : Hp} {a : Addr} {ns : List Int} {E : XK} (hl : ns.length ≤ 63) (hb : ∀ z ∈ ns, Builtin.Int.intBits z ≤ 1048576) (hS : SqL K H a (ns.map V.int)) :
    sp_law K [.ref a] H (fun v _ => v = .bl true) E := ⟨a, ns, rfl, hl, hS, fun _ => rfl⟩
theorem ok_law (n : Nm mg) (c__law_cell_at : GC P w K mg base 1 "_law_cell_at" (sp__law_cell_at K)) (c__law_draw : GC P w K mg base 1 "_law_draw" (sp__law_draw K)) (c__law_fresh : GC P w K mg base 3 "_law_fresh" (sp__law_fresh K)) (c__law_mixed : GC P w K mg base 2 "_law_mixed" (sp__law_mixed K)) (c__law_pool : GC P w K mg base 1 "_law_pool" (sp__law_pool K)) (c__law_right : GC P w K mg base 9 "_law_right" (sp__law_right K)) (c__law_words : GC P w K mg base 3 "_law_words" (sp__law_words K)) (c_key_text : GC P w K mg base 8 "key_text" (sp_key_text K)) (c_keys_for : GC P w K mg base 8 "keys_for" (sp_keys_for K)) {f : Addr} {fd : FuncData} (F : Fun K "law" "law" s_law f fd) :
    GFn P w K mg base CX0 10 f fd ["script"] (sp_law K) := by
  have n_len := n.len_
  have n_list := n.list_
  have n_max := n.max_
  have n_min := n.min_
  have n_range := n.range_
  refine GFn.mk' F sc_law (fun vs H Q E h => ?_) (fun cdv A outer s H vs Q E gd hr h => ?_)
  · obtain ⟨a, ns, rfl, _⟩ := h
    rfl
  obtain ⟨a, ns, rfl, hl, hS, q⟩ := h
  refine ⟨_, (pss_cons (ps_for PassesOwn.never rfl (pi_range1 (by rfl) n_range (pa_cons (pe_callB (call_max2 rfl) (by rfl) n_max (by decide +kernel) (pa_cons pe_int (pa_cons (pe_callB (call_min2 rfl) (by rfl) n_min (by decide +kernel) (pa_cons pe_int (pa_cons (pe_callB (kcu_len (K := K) rfl) (by rfl) n_len (by decide +kernel) (pa_cons (pv 0) pa_nil)) pa_nil))) pa_nil))) pa_nil)) (pg_name (i := 1) sc_law.nd rfl (.inl rfl))
      (pss_cons (ps_set (i := 2) sc_law.nd rfl (.inr rfl) (pe_gc c__law_pool gd hr (by decide) (by rfl) (pa_cons (pe_gc c__law_cell_at gd hr (by decide) (by rfl) (pa_cons (pv 0) (pa_cons (pv 1) pa_nil))) (pa_cons (pv 1) pa_nil))))
        (pss_cons (ps_set (i := 3) sc_law.nd rfl (.inr rfl) (pe_gc c__law_words gd hr (by decide) (by rfl) (pa_cons (pv 2) (pa_cons (pv 0) pa_nil))))
        (pss_one (ps_for PassesOwn.never rfl (pi_range1 (by rfl) n_range (pa_cons pe_int pa_nil)) (pg_name (i := 4) sc_law.nd rfl (.inl rfl))
      (pss_cons (ps_set (i := 5) sc_law.nd rfl (.inl rfl) (pe_callTy (kcall_list (K := K) rfl) (by rfl) n_list (by decide +kernel) (pa_cons (pv 3) pa_nil)))
        (pss_cut (ps_if (pt_cmpR ou_gt (pe_callB (kcu_len (K := K) rfl) (by rfl) n_len (by decide +kernel) (pa_cons (pv 3) pa_nil)) pe_int (nomark _))
      (pss_one (ps_setLc (i := 5) (own := [("j", 8)]) rfl sc_law.nd rfl rfl (sw_true rfl rfl rfl (by decide +kernel)) (pi_range1 (by rfl) n_range (pa_cons pe_int pa_nil)) (blkOk_by (own := [("j", 8)]) (N := N_law) (sc := defScope s_law) (by decide +kernel)) (fun _ _ _ _ _ => (pg_name (i := 8) sc_law.nd rfl (.inl rfl))) (fun _ _ _ _ _ => pts_nil) (fun _ _ _ _ _ => (pe_ix (kix_seq (K := K) rfl) (pv 3) (pe_gc c__law_draw gd hr (by decide) (by rfl) (pa_cons (pv 2) (pa_cons (pe_callB (kcu_len (K := K) rfl) (by rfl) n_len (by decide +kernel) (pa_cons (pv 3) pa_nil)) pa_nil))) (fun _ _ => rfl)))))
      pss_nil)
        (pss_cons (ps_set (i := 5) sc_law.nd rfl (.inl rfl) (pe_op (kou_add (K := K) rfl) (pv 5) (pe_lc (own := [("j", 8)]) rfl sc_law.nd (pi_range1 (by rfl) n_range (pa_cons pe_int pa_nil)) (blkOk_by (own := [("j", 8)]) (N := N_law) (sc := defScope s_law) (by decide +kernel)) (fun _ _ _ _ _ => (pg_name (i := 8) sc_law.nd rfl (.inl rfl))) (fun _ _ _ _ _ => pts_nil) (fun _ _ _ _ _ => (pe_gc c__law_fresh gd hr (by decide) (by rfl) (pa_cons (pv 2) (pa_cons (pv 3) pa_nil)))))))
        (pss_cons (ps_for PassesOwn.never rfl (kpi_u (K := K) rfl (pe_lc (own := [("one", 7)]) rfl sc_law.nd (kpi_u (K := K) rfl (pv 5)) (blkOk_by (own := [("one", 7)]) (N := N_law) (sc := defScope s_law) (by decide +kernel)) (fun _ _ _ _ _ => (pg_name (i := 7) sc_law.nd rfl (.inl rfl))) (fun _ _ _ _ _ => (pts_one (pt_cmpR op_notN (pv 7) pe_non (nomark _)))) (fun _ _ _ _ _ => (pv 7)))) (pg_name (i := 6) sc_law.nd rfl (.inl rfl))
      (pss_one (ps_if (pt_not (kpt_u (K := K) rfl (pe_gc c__law_right gd hr (by decide) (by rfl) (pa_cons (pv 3) (pa_cons (pv 6) pa_nil))) (by intro _; rfl)))
      (pss_one (ps_ret pe_bl))
      pss_nil)))
        (pss_cons (ps_set (i := 3) sc_law.nd rfl (.inr rfl) (pe_gc c__law_mixed gd hr (by decide) (by rfl) (pa_cons (pv 2) (pa_cons (pv 3) pa_nil))))
        (pss_one (ps_if (pt_cmpR (kou_ne (K := K) rfl hr.units) (pv 3) (pe_lst pa_nil) (nomark _))
      (pss_one (ps_expr (kpe_bm0 (K := K) rfl PySem.F.plainAttrs_list PySem.F.slot_list_reverse PySem.F.type_list_reverse mt_reverse (pv 3))))
      pss_nil))))))))))))
      (pss_one (ps_ret (pe_cmpR (kou_eq (K := K) rfl hr.units) (pe_lst (pa_cons (pe_gc c_keys_for gd hr (by decide) (by rfl) (pa_cons (pe_lst pa_nil) (pa_cons pe_str pa_nil))) (pa_cons (pe_gc c_key_text gd hr (by decide) (by rfl) (pa_cons (pe_lst pa_nil) (pa_cons pe_str pa_nil))) (pa_cons (pe_gc c_keys_for gd hr (by decide) (by rfl) (pa_cons (pe_lst pa_nil) (pa_cons (pe_op ou_mul pe_str pe_int) pa_nil))) pa_nil)))) (pe_lst (pa_cons pe_int (pa_cons pe_str (pa_cons pe_int pa_nil)))) (nomark _))))), ?_⟩
  walk_at "go"
  refine u_lenL hS ?_
  walk_at "go"
  generalize ht : (if (if ((ns.map V.int).length : Int) < 4 then ((ns.map V.int).length : Int) else 4) > 1 then (if ((ns.map V.int).length : Int) < 4 then ((ns.map V.int).length : Int) else 4) else 1) = t
  have ht0 : 1 ≤ t ∧ t ≤ 4 := by
    rw [← ht]
    repeat' split
    all_goals omega
  clear ht
  refine fo_1 (by omega) (by omega) (fun i σ H' => ∃ (y1 y2 y3 y4 y5 y6 y7 y8 : Option V), σ = [some (.ref a), y1, y2, y3, y4, y5, y6, y7, y8] ∧ Kp [] H H') ⟨_, _, _, _, _, _, _, _, rfl, Kp.refl⟩ ?_ ?_
  · rintro i σ H1 hi ⟨y1, y2, y3, y4, y5, y6, y7, y8, rfl, k1⟩
    walk_at "go"
    refine ⟨a, ns, i, rfl, k1.same.seq hS, hl, fun H2 c k2 => ?_⟩
    walk_at "go"
    refine ⟨c, i, rfl, by omega, fun H3 p k3 np Sp => ?_⟩
    have k13 := (k1.call0 k2).call0 k3
    have pf : H p = none := (k1.call0 k2).free0 np
    walk_at "go"
    refine ⟨p, a, 0, ns, rfl, Sp, by decide, fun H' k' => ?_, fun H4 b ws k4 nb bp S4 hb B => ?_⟩
    · exact (k13.callN k' pf).same.seq hS
    have K4 : Kp [] H H4 := k13.callN k4 pf
    have bf : H b = none := k13.free0 nb
    walk_at "go"
    refine fo_1 (by decide) (by decide) (fun i σ H' => ∃ (b : Addr) (ws : List Str) (z1 z4 z5 z6 z7 z8 : Option V), σ = [some (.ref a), z1, some (.ref p), some (.ref b), z4, z5, z6, z7, z8] ∧ Kp [] H H' ∧ Src H' p (5000 + 1000 * i) ∧ H' b = some (.lst (ws.map V.str)) ∧ b ≠ p ∧ H b = none ∧ Bk ws 120)
      ⟨b, ws, _, _, _, _, _, _, rfl, K4, S4.mono (by omega), hb, bp, bf, B⟩ ?_ ?_
    · clear hb bp bf B S4 K4 nb k4 b ws
      rintro j σ H5 hj ⟨b, ws, z1, z4, z5, z6, z7, z8, rfl, k5, S5, hb, bp, bf, B⟩
      have hl2 := B.len
      walk_at "go"
      refine u_list (SqL.of hb) ?_
      intro p6 n_p6
      generalize g_H6 : upd _ p6 _ = H6
      obtain ⟨k_H6, e_p6⟩ := al_of n_p6 g_H6
      clear g_H6
      have S6 := S5.kp k_H6
      have b6 := k_H6.get0 hb
      walk_at "go"
      refine rd_cut (fun σ H' => ∃ (s : Addr) (xs : List V) (z1 z6 z7 z8 : Option V), σ = [some (.ref a), z1, some (.ref p), some (.ref b), some (.int (j : Int)), some (.ref s), z6, z7, z8] ∧ Kp [p] H6 H' ∧ Src H' p (5000 + 1000 * j + 100) ∧ H' s = some (.lst xs) ∧ s ≠ p ∧ xs.length ≤ 120 ∧ ∀ v ∈ xs, Ent ws v) ?_ ?_
      · walk_at "go"
        refine u_lenL (SqL.of b6) ?_
        walk_at "go"
        refine ite2 (fun c2 => ?_) (fun c2 => ?_)
        · have hne : 12 < ws.length := by
            simp only [List.length_map, decide_eq_true_eq] at c2
            omega
          walk_at "go"
          refine co_1 (by decide) (by decide) fun C nC => ⟨fun m H' => Kp [p] H6 H' ∧ Src H' p (5000 + 1000 * j + m) ∧ ∃ us : List Str, H' C = some (.lst (us.map V.str)) ∧ us.length = m ∧ ∀ u ∈ us, u ∈ ws,
            ⟨Kp.refl.new nC, (S6.new nC).mono (by omega), [], upd_same, rfl, by simp⟩, ?_, ?_⟩
          · rintro m H7 hm ⟨k7, S7, us, e7, ul, um⟩
            have ca := S6.ne nC
            walk_at "go"
            refine ⟨rfl, ?_⟩
            walk_at "go"
            refine u_lenL (SqL.of (k7.get1 b6 bp)) ?_
            walk_at "go"
            refine ⟨p, _, _, rfl, S7, by omega, by rw [List.length_map]; omega, log_small (by rw [List.length_map]; omega), fun H8 d k8 S8 d0 d1 => ?_⟩
            walk_at "go"
            obtain ⟨v, ev, mv⟩ := atI_lt (xs := ws.map V.str) d0 d1
            obtain ⟨u, hu, rfl⟩ := List.mem_map.mp mv
            refine u_ixL (SqL.of (k8.get1 (k7.get1 b6 bp) bp)) ev ?_
            walk_at "go"
            refine ⟨_, k8.get1 e7 ca, by rw [sizeLine_eq, List.length_map]; omega, (k7.call1 k8 (by simp)).mutN nC, (S8.mut ca).mono (by omega), us ++ [u], ?_, by simp [ul], fun x hx => ?_⟩
            · rw [upd_same, List.map_append]
              rfl
            · rcases List.mem_append.mp hx with h | h
              · exact um x h
              · rw [List.mem_singleton.mp h]
                exact hu
          · rintro H7 ⟨k7, S7, us, e7, ul, um⟩
            walk_at "go"
            refine ⟨C, _, _, _, _, _, rfl, k7, S7.mono (by omega), e7, S6.ne nC, by rw [List.length_map]; omega, fun v hv => ?_⟩
            obtain ⟨u, hu, rfl⟩ := List.mem_map.mp hv
            exact ent_word B (um u hu)
        · walk_at "go"
          refine ⟨p6, _, _, _, _, _, rfl, Kp.refl, S6.mono (by omega), e_p6, S5.ne n_p6, by rw [List.length_map]; omega, fun v hv => ?_⟩
          obtain ⟨u, hu, rfl⟩ := List.mem_map.mp hv
          exact ent_word B hu
      · rintro σ H7 ⟨s, xs, z1, z6, z7, z8, rfl, k7, S7, hs, sp, xl, xe⟩
        have b7 := k7.get1 b6 bp
        have K7 : Kp [] H H7 := (k5.call0 k_H6).callN k7 pf
        walk_at "go"
        refine co_1 (by decide) (by decide) fun C nC => ⟨fun m H' => Kp [p] H7 H' ∧ Src H' p (5000 + 1000 * j + 100 + 50 * m) ∧ ∃ ys : List V, H' C = some (.lst ys) ∧ ys.length = m ∧ ∀ v ∈ ys, Ent ws v,
          ⟨Kp.refl.new nC, (S7.new nC).mono (by omega), [], upd_same, rfl, by simp⟩, ?_, ?_⟩
        · rintro m H8 hm ⟨k8, S8, ys, e8, yl, ye⟩
          have ca := S7.ne nC
          have hm2 : m < 3 := by omega
          walk_at "go"
          refine ⟨rfl, ?_⟩
          walk_at "go"
          refine ⟨p, b, _, ws, rfl, S8, by omega, k8.get1 b7 bp, bp, B, fun H9 o k9 S9 ho => ?_⟩
          refine ⟨ys, k9.get1 e8 ca, by rw [sizeLine_eq]; omega, (k8.call1 k9 (by simp)).mutN nC, (S9.mut ca).mono (by omega), ys ++ [optV o], upd_same, by simp [yl], fun v hv => ?_⟩
          rcases List.mem_append.mp hv with h | h
          · exact ye v h
          · rw [List.mem_singleton.mp h]
            cases o with
            | none => exact .inl rfl
            | some x => exact .inr ⟨x, rfl, ho x rfl⟩
        · rintro H8 ⟨k8, S8, ys, e8, yl, ye⟩
          have b8 := k8.get1 b7 bp
          refine u_addL (SqL.of (k8.get1 hs sp)) (SqL.of e8) (by rw [sizeLine_eq]; omega) ?_
          have K8 : Kp [] H H8 := K7.callN k8 pf
          intro p9 n_p9
          generalize g_H9 : upd _ p9 _ = H9
          obtain ⟨k_H9, e_p9⟩ := al_of n_p9 g_H9
          clear g_H9
          have k9' := K8.call0 k_H9
          have b9 := k_H9.get0 b8
          have S9 := S8.kp k_H9
          have ent : ∀ v ∈ xs ++ ys, Ent ws v := fun v hv => by
            rcases List.mem_append.mp hv with h | h
            · exact xe v h
            · exact ye v h
          have len9 : (xs ++ ys).length ≤ 200 := by rw [List.length_append]; have : ys.length = 3 := yl; omega
          generalize xs ++ ys = vs at *
          walk_at "go"
          refine co_lF (fun v : V => v) (fun v => !decide (v = V.non)) (fun v => v) (by rw [List.map_id']; exact SqL.of e_p9) (by rw [sizeLine_eq]; omega) (fun y hy C acc P H' k h hl r => ?_) (fun C2 H10 nC2 k10 hC2 => ?_)
          · walk_at "go"
            refine ⟨rfl, ?_⟩
            walk_at "go"
            refine ⟨rfl, ?_⟩
            have rr := r _ Kp.refl
            generalize (!decide (y = V.non)) = bb at *
            walk_at "go"
            cases bb with
            | true =>
              walk_at "go"
              exact ⟨_, h, hl, rr⟩
            | false =>
              walk_at "go"
              exact rr
          · rw [List.map_id'] at hC2
            have b10 := k10.get0 b9
            have S10 := S9.kp k10
            have fe : ∀ v ∈ vs.filter (fun v => !decide (v = V.non)), ∃ x, v = .str x ∧ okW x ∧ NC (ws ++ [x]) := fun v hv => by
              obtain ⟨h1, h2⟩ := List.mem_filter.mp hv
              rcases ent v h1 with h | h
              · subst h
                simp at h2
              · exact h
            generalize vs.filter (fun v => !decide (v = V.non)) = fs at *
            have wl : ∀ w ∈ ws, isW w = true := fun w h => okW_isW (B.ok w h)
            walk_at "go"
            refine fo_l (SqL.of hC2) (fun m σ H' => ∃ (s7 : Addr) (z1 z6 z7 z8 : Option V), σ = [some (.ref a), z1, some (.ref p), some (.ref b), some (.int (j : Int)), some (.ref s7), z6, z7, z8] ∧ Kp [] H10 H') ⟨_, _, _, _, _, rfl, Kp.refl⟩
              (fun m σ H' h => by obtain ⟨_, _, _, _, _, _, k⟩ := h; exact SqL.of (k.get0 hC2)) ?_ ?_
            · rintro m v σ H11 ev ⟨s7, z1, z6, z7, z8, rfl, k11⟩
              obtain ⟨x, rfl, ox, nx⟩ := fe v (List.mem_of_getElem? ev)
              walk_at "go"
              refine ⟨b, ws, x, rfl, k11.get0 b10, by omega, wl, okW_isW ox, nx, B.nodup, fun H12 k12 => ?_⟩
              walk_at "go"
              exact ⟨_, _, _, _, _, rfl, k11.call0 k12⟩
            · rintro σ H11 ⟨s7, z1, z6, z7, z8, rfl, k11⟩
              have b11 := k11.get0 b10
              have S11 := S10.kp k11
              have K11 := (k9'.call0 k10).call0 k11
              walk_at "go"
              refine ⟨p, b, _, _, rfl, S11, by omega, SqL.of b11, by rw [List.length_map]; omega, fun H12 r ys k12 nr rp S12 hr pm => ?_⟩
              obtain ⟨us, rfl, pu⟩ := perm_strs pm
              have Bu := B.perm pu
              have K12 : Kp [] H H12 := K11.callN k12 pf
              have rf : H r = none := K11.free0 nr
              walk_at "go"
              intro p13 n_p13
              generalize g_H13 : upd _ p13 _ = H13
              obtain ⟨k_H13, e_p13⟩ := al_of n_p13 g_H13
              clear g_H13
              have r13 := k_H13.get0 hr
              have S13 := (S12.kp k_H13).mono (m := 5000 + 1000 * (j + 1)) (by rw [List.length_map]; omega)
              refine u_neN r13 e_p13 (dp_strs us) (shaped_strs us fun w h => strOk_w (okW_isW (Bu.ok w h))) ?_
              walk_at "go"
              refine ite2 (fun c3 => ?_) (fun c3 => ?_)
              · walk_at "go"
                refine ty_l r13 ?_
                walk_at "go"
                refine ⟨r, _, rfl, rfl, r13, ?_⟩
                walk_at "go"
                refine ⟨r, us.reverse, _, _, _, _, _, _, rfl, (K12.call0 k_H13).mutN rf, S13.mut rp, ?_, rp, rf, Bu.perm (List.reverse_perm us)⟩
                rw [upd_same, List.map_reverse]
              · walk_at "go"
                exact ⟨r, us, _, _, _, _, _, _, rfl, K12.call0 k_H13, S13, r13, rp, rf, Bu⟩
    · rintro σ H5 ⟨b, ws, z1, z4, z5, z6, z7, z8, rfl, k5, _⟩
      walk_at "go"
      exact ⟨_, _, _, _, _, _, _, _, rfl, k5⟩
  · rintro σ H1 ⟨y1, y2, y3, y4, y5, y6, y7, y8, rfl, k1⟩
    walk_at "go"
    intro p2 n_p2
    generalize g_H2 : upd _ p2 _ = H2
    obtain ⟨k_H2, e_p2⟩ := al_of n_p2 g_H2
    clear g_H2
    have nc1 : ∀ x : Str, NC ([] ++ [x]) := fun x u hu v hv ne => by
      simp only [List.nil_append, List.mem_singleton] at hu hv
      exact absurd (hu.trans hv.symm) ne
    have t1 : ∀ x : Str, typed [] x = x := fun x => by
      have e : typ [] x = none := by
        unfold typ
        rw [List.find?_eq_none]
        intro i _
        simp [sug]
      rw [typed, e]
    walk_at "go"
    refine ⟨p2, [], "cat", rfl, SqL.of e_p2, by decide, by simp, by decide +kernel, nc1 _, List.nodup_nil, fun H3 k3 => ?_⟩
    walk_at "go"
    intro p4 n_p4
    generalize g_H4 : upd _ p4 _ = H4
    obtain ⟨k_H4, e_p4⟩ := al_of n_p4 g_H4
    clear g_H4
    walk_at "go"
    refine ⟨p4, [], "cat", rfl, SqL.of e_p4, by decide, by simp, by decide +kernel, nc1 _, List.nodup_nil, fun H5 k5 => ?_⟩
    walk_at "go"
    intro p6 n_p6
    generalize g_H6 : upd _ p6 _ = H6
    obtain ⟨k_H6, e_p6⟩ := al_of n_p6 g_H6
    clear g_H6
    iterate 4 (walk_at "g1")
    refine u_mulS (a := "a") (k := 12) (by decide) (by decide) (by rw [sizeLine_eq]; decide +kernel) ?_
    rw [show strRep "a" (Int.toNat 12) = "aaaaaaaaaaaa" by decide +kernel]
    walk_at "go"
    refine ⟨p6, [], "aaaaaaaaaaaa", rfl, SqL.of e_p6, by decide, by simp, by decide +kernel, nc1 _, List.nodup_nil, fun H7 k7 => ?_⟩
    walk_at "go"
    intro p8 n_p8
    generalize g_H8 : upd _ p8 _ = H8
    obtain ⟨k_H8, e_p8⟩ := al_of n_p8 g_H8
    clear g_H8
    walk_at "go"
    intro p9 n_p9
    generalize g_H9 : upd _ p9 _ = H9
    obtain ⟨k_H9, e_p9⟩ := al_of n_p9 g_H9
    clear g_H9
    have e8 : H9 p8 = some (.lst [V.int 4, V.str "cat+", V.int 13]) := by
      rw [k_H9.get0 e_p8]
      show some (HO.lst [V.int ((typed [] "cat").length + 1 : Int), V.str (typed [] "cat" ++ "+"), V.int ((typed [] "aaaaaaaaaaaa").length + 1 : Int)]) = _
      rw [t1, t1, show ((("cat" : Str).length : Int) + 1) = 4 by decide +kernel, show (("cat" : Str) ++ "+") = "cat+" by decide +kernel, show ((("aaaaaaaaaaaa" : Str).length : Int) + 1) = 13 by decide +kernel]
    refine u_eqD (d := .list [.int 4, .str "cat+", .int 13]) (e := .list [.int 4, .str "cat+", .int 13]) (.lst (SqL.of e8) (.cons (.int _) (.cons (.str _) (.cons (.int _) .nil)))) (.lst (SqL.of e_p9) (.cons (.int _) (.cons (.str _) (.cons (.int _) .nil)))) (by decide +kernel) (by decide +kernel) ?_
    rw [show PyData.eqv (.list [.int 4, .str "cat+", .int 13]) (.list [.int 4, .str "cat+", .int 13]) = true by decide +kernel]
    exact q _
end
theorem all_mk {l : PySem.W.OpenLaw} {w : World} {K : PySem.W.Frag} {h : Heap} {mg : Str → Option Value} {fa f0 f1 f2 f3 f4 f5 f6 f7 f8 f9 f10 f11 f12 f13 f14 f15 f16 f17 f18 f19 f20 f21 f22 f23 f24 f25 f26 : Addr} (X : K.In h) (G : h.Ns mainGlobals mg) (hfa : mg "law" = some (.ref fa))
    {od0 an0 od1 an1 od2 an2 od3 an3 od4 an4 od5 an5 od6 an6 od7 an7 od8 an8 od9 an9 od10 an10 od11 an11 od12 an12 od13 an13 od14 an14 od15 an15 od16 an16 od17 an17 od18 an18 od19 an19 od20 an20 od21 an21 od22 an22 od23 an23 od24 an24 od25 an25 od26 an26 : Option Addr} {sl0 sl1 sl2 sl3 sl4 sl5 sl6 sl7 sl8 sl9 sl10 sl11 sl12 sl13 sl14 sl15 sl16 sl17 sl18 sl19 sl20 sl21 sl22 sl23 sl24 sl25 sl26 : Array (Option Value)}
    {oc0 kV0 dc0 pm0 cd0 ct0 oc1 kV1 dc1 pm1 cd1 ct1 oc2 kV2 dc2 pm2 cd2 ct2 oc3 kV3 dc3 pm3 cd3 ct3 oc4 kV4 dc4 pm4 cd4 ct4 oc5 kV5 dc5 pm5 cd5 ct5 oc6 kV6 dc6 pm6 cd6 ct6 oc7 kV7 dc7 pm7 cd7 ct7 oc8 kV8 dc8 pm8 cd8 ct8 oc9 kV9 dc9 pm9 cd9 ct9 oc10 kV10 dc10 pm10 cd10 ct10 oc11 kV11 dc11 pm11 cd11 ct11 oc12 kV12 dc12 pm12 cd12 ct12 oc13 kV13 dc13 pm13 cd13 ct13 oc14 kV14 dc14 pm14 cd14 ct14 oc15 kV15 dc15 pm15 cd15 ct15 oc16 kV16 dc16 pm16 cd16 ct16 oc17 kV17 dc17 pm17 cd17 ct17 oc18 kV18 dc18 pm18 cd18 ct18 oc19 kV19 dc19 pm19 cd19 ct19 oc20 kV20 dc20 pm20 cd20 ct20 oc21 kV21 dc21 pm21 cd21 ct21 oc22 kV22 dc22 pm22 cd22 ct22 oc23 kV23 dc23 pm23 cd23 ct23 oc24 kV24 dc24 pm24 cd24 ct24 oc25 kV25 dc25 pm25 cd25 ct25 oc26 kV26 dc26 pm26 cd26 ct26 : Value} {t_LETTERS t_MOST_LETTERS : Tok}
    (a0 : PySem.W.nsIn K mainGlobals "_law_cell_at" = some (some (.ref f0)))
    (l0 : K.lookup f0 = some ⟨oc0, od0, .func (PySem.W.fnOf "_law_cell_at" "_law_cell_at" (defArgs s__law_cell_at) (defBody s__law_cell_at) (defScope s__law_cell_at) .none kV0 dc0 pm0 an0 cd0 ct0), sl0⟩)
    (c0 : PySem.W.codeIn K cd0 "_law_cell_at" = true) (k0 : PySem.W.keepIn K (.ref f0) = true)
    (a1 : PySem.W.nsIn K mainGlobals "_law_draw" = some (some (.ref f1)))
    (l1 : K.lookup f1 = some ⟨oc1, od1, .func (PySem.W.fnOf "_law_draw" "_law_draw" (defArgs s__law_draw) (defBody s__law_draw) (defScope s__law_draw) .none kV1 dc1 pm1 an1 cd1 ct1), sl1⟩)
    (c1 : PySem.W.codeIn K cd1 "_law_draw" = true) (k1 : PySem.W.keepIn K (.ref f1) = true)
    (a2 : PySem.W.nsIn K mainGlobals "_law_apart" = some (some (.ref f2)))
    (l2 : K.lookup f2 = some ⟨oc2, od2, .func (PySem.W.fnOf "_law_apart" "_law_apart" (defArgs s__law_apart) (defBody s__law_apart) (defScope s__law_apart) .none kV2 dc2 pm2 an2 cd2 ct2), sl2⟩)
    (c2 : PySem.W.codeIn K cd2 "_law_apart" = true) (k2 : PySem.W.keepIn K (.ref f2) = true)
    (a3 : PySem.W.nsIn K mainGlobals "_law_spelled" = some (some (.ref f3)))
    (l3 : K.lookup f3 = some ⟨oc3, od3, .func (PySem.W.fnOf "_law_spelled" "_law_spelled" (defArgs s__law_spelled) (defBody s__law_spelled) (defScope s__law_spelled) .none kV3 dc3 pm3 an3 cd3 ct3), sl3⟩)
    (c3 : PySem.W.codeIn K cd3 "_law_spelled" = true) (k3 : PySem.W.keepIn K (.ref f3) = true)
    (a4 : PySem.W.nsIn K mainGlobals "_law_fresh" = some (some (.ref f4)))
    (l4 : K.lookup f4 = some ⟨oc4, od4, .func (PySem.W.fnOf "_law_fresh" "_law_fresh" (defArgs s__law_fresh) (defBody s__law_fresh) (defScope s__law_fresh) .none kV4 dc4 pm4 an4 cd4 ct4), sl4⟩)
    (c4 : PySem.W.codeIn K cd4 "_law_fresh" = true) (k4 : PySem.W.keepIn K (.ref f4) = true)
    (a5 : PySem.W.nsIn K mainGlobals "_law_mixed" = some (some (.ref f5)))
    (l5 : K.lookup f5 = some ⟨oc5, od5, .func (PySem.W.fnOf "_law_mixed" "_law_mixed" (defArgs s__law_mixed) (defBody s__law_mixed) (defScope s__law_mixed) .none kV5 dc5 pm5 an5 cd5 ct5), sl5⟩)
    (c5 : PySem.W.codeIn K cd5 "_law_mixed" = true) (k5 : PySem.W.keepIn K (.ref f5) = true)
    (a6 : PySem.W.nsIn K mainGlobals "_law_pool" = some (some (.ref f6)))
    (l6 : K.lookup f6 = some ⟨oc6, od6, .func (PySem.W.fnOf "_law_pool" "_law_pool" (defArgs s__law_pool) (defBody s__law_pool) (defScope s__law_pool) .none kV6 dc6 pm6 an6 cd6 ct6), sl6⟩)
    (c6 : PySem.W.codeIn K cd6 "_law_pool" = true) (k6 : PySem.W.keepIn K (.ref f6) = true)
    (a7 : PySem.W.nsIn K mainGlobals "_law_suggested" = some (some (.ref f7)))
    (l7 : K.lookup f7 = some ⟨oc7, od7, .func (PySem.W.fnOf "_law_suggested" "_law_suggested" (defArgs s__law_suggested) (defBody s__law_suggested) (defScope s__law_suggested) .none kV7 dc7 pm7 an7 cd7 ct7), sl7⟩)
    (c7 : PySem.W.codeIn K cd7 "_law_suggested" = true) (k7 : PySem.W.keepIn K (.ref f7) = true)
    (a8 : PySem.W.nsIn K mainGlobals "_law_typed" = some (some (.ref f8)))
    (l8 : K.lookup f8 = some ⟨oc8, od8, .func (PySem.W.fnOf "_law_typed" "_law_typed" (defArgs s__law_typed) (defBody s__law_typed) (defScope s__law_typed) .none kV8 dc8 pm8 an8 cd8 ct8), sl8⟩)
    (c8 : PySem.W.codeIn K cd8 "_law_typed" = true) (k8 : PySem.W.keepIn K (.ref f8) = true)
    (a9 : PySem.W.nsIn K mainGlobals "is_text" = some (some (.ref f9)))
    (l9 : K.lookup f9 = some ⟨oc9, od9, .func (PySem.W.fnOf "is_text" "is_text" (defArgs s_is_text) (defBody s_is_text) (defScope s_is_text) .none kV9 dc9 pm9 an9 cd9 ct9), sl9⟩)
    (c9 : PySem.W.codeIn K cd9 "is_text" = true) (k9 : PySem.W.keepIn K (.ref f9) = true)
    (a10 : PySem.W.nsIn K mainGlobals "is_word" = some (some (.ref f10)))
    (l10 : K.lookup f10 = some ⟨oc10, od10, .func (PySem.W.fnOf "is_word" "is_word" (defArgs s_is_word) (defBody s_is_word) (defScope s_is_word) .none kV10 dc10 pm10 an10 cd10 ct10), sl10⟩)
    (c10 : PySem.W.codeIn K cd10 "is_word" = true) (k10 : PySem.W.keepIn K (.ref f10) = true)
    (a11 : PySem.W.nsIn K mainGlobals "_is_word_list" = some (some (.ref f11)))
    (l11 : K.lookup f11 = some ⟨oc11, od11, .func (PySem.W.fnOf "_is_word_list" "_is_word_list" (defArgs s__is_word_list) (defBody s__is_word_list) (defScope s__is_word_list) .none kV11 dc11 pm11 an11 cd11 ct11), sl11⟩)
    (c11 : PySem.W.codeIn K cd11 "_is_word_list" = true) (k11 : PySem.W.keepIn K (.ref f11) = true)
    (a12 : PySem.W.nsIn K mainGlobals "_least_clash" = some (some (.ref f12)))
    (l12 : K.lookup f12 = some ⟨oc12, od12, .func (PySem.W.fnOf "_least_clash" "_least_clash" (defArgs s__least_clash) (defBody s__least_clash) (defScope s__least_clash) .none kV12 dc12 pm12 an12 cd12 ct12), sl12⟩)
    (c12 : PySem.W.codeIn K cd12 "_least_clash" = true) (k12 : PySem.W.keepIn K (.ref f12) = true)
    (a13 : PySem.W.nsIn K mainGlobals "is_history" = some (some (.ref f13)))
    (l13 : K.lookup f13 = some ⟨oc13, od13, .func (PySem.W.fnOf "is_history" "is_history" (defArgs s_is_history) (defBody s_is_history) (defScope s_is_history) .none kV13 dc13 pm13 an13 cd13 ct13), sl13⟩)
    (c13 : PySem.W.codeIn K cd13 "is_history" = true) (k13 : PySem.W.keepIn K (.ref f13) = true)
    (a14 : PySem.W.nsIn K mainGlobals "is_book" = some (some (.ref f14)))
    (l14 : K.lookup f14 = some ⟨oc14, od14, .func (PySem.W.fnOf "is_book" "is_book" (defArgs s_is_book) (defBody s_is_book) (defScope s_is_book) .none kV14 dc14 pm14 an14 cd14 ct14), sl14⟩)
    (c14 : PySem.W.codeIn K cd14 "is_book" = true) (k14 : PySem.W.keepIn K (.ref f14) = true)
    (a15 : PySem.W.nsIn K mainGlobals "check_book" = some (some (.ref f15)))
    (l15 : K.lookup f15 = some ⟨oc15, od15, .func (PySem.W.fnOf "check_book" "check_book" (defArgs s_check_book) (defBody s_check_book) (defScope s_check_book) .none kV15 dc15 pm15 an15 cd15 ct15), sl15⟩)
    (c15 : PySem.W.codeIn K cd15 "check_book" = true) (k15 : PySem.W.keepIn K (.ref f15) = true)
    (a16 : PySem.W.nsIn K mainGlobals "check_no_clash" = some (some (.ref f16)))
    (l16 : K.lookup f16 = some ⟨oc16, od16, .func (PySem.W.fnOf "check_no_clash" "check_no_clash" (defArgs s_check_no_clash) (defBody s_check_no_clash) (defScope s_check_no_clash) .none kV16 dc16 pm16 an16 cd16 ct16), sl16⟩)
    (c16 : PySem.W.codeIn K cd16 "check_no_clash" = true) (k16 : PySem.W.keepIn K (.ref f16) = true)
    (a17 : PySem.W.nsIn K mainGlobals "check_word" = some (some (.ref f17)))
    (l17 : K.lookup f17 = some ⟨oc17, od17, .func (PySem.W.fnOf "check_word" "check_word" (defArgs s_check_word) (defBody s_check_word) (defScope s_check_word) .none kV17 dc17 pm17 an17 cd17 ct17), sl17⟩)
    (c17 : PySem.W.codeIn K cd17 "check_word" = true) (k17 : PySem.W.keepIn K (.ref f17) = true)
    (a18 : PySem.W.nsIn K mainGlobals "_check_entry" = some (some (.ref f18)))
    (l18 : K.lookup f18 = some ⟨oc18, od18, .func (PySem.W.fnOf "_check_entry" "_check_entry" (defArgs s__check_entry) (defBody s__check_entry) (defScope s__check_entry) .none kV18 dc18 pm18 an18 cd18 ct18), sl18⟩)
    (c18 : PySem.W.codeIn K cd18 "_check_entry" = true) (k18 : PySem.W.keepIn K (.ref f18) = true)
    (a19 : PySem.W.nsIn K mainGlobals "last_with" = some (some (.ref f19)))
    (l19 : K.lookup f19 = some ⟨oc19, od19, .func (PySem.W.fnOf "last_with" "last_with" (defArgs s_last_with) (defBody s_last_with) (defScope s_last_with) .none kV19 dc19 pm19 an19 cd19 ct19), sl19⟩)
    (c19 : PySem.W.codeIn K cd19 "last_with" = true) (k19 : PySem.W.keepIn K (.ref f19) = true)
    (a20 : PySem.W.nsIn K mainGlobals "typed_letters" = some (some (.ref f20)))
    (l20 : K.lookup f20 = some ⟨oc20, od20, .func (PySem.W.fnOf "typed_letters" "typed_letters" (defArgs s_typed_letters) (defBody s_typed_letters) (defScope s_typed_letters) .none kV20 dc20 pm20 an20 cd20 ct20), sl20⟩)
    (c20 : PySem.W.codeIn K cd20 "typed_letters" = true) (k20 : PySem.W.keepIn K (.ref f20) = true)
    (a21 : PySem.W.nsIn K mainGlobals "key_text" = some (some (.ref f21)))
    (l21 : K.lookup f21 = some ⟨oc21, od21, .func (PySem.W.fnOf "key_text" "key_text" (defArgs s_key_text) (defBody s_key_text) (defScope s_key_text) .none kV21 dc21 pm21 an21 cd21 ct21), sl21⟩)
    (c21 : PySem.W.codeIn K cd21 "key_text" = true) (k21 : PySem.W.keepIn K (.ref f21) = true)
    (a22 : PySem.W.nsIn K mainGlobals "count_keys" = some (some (.ref f22)))
    (l22 : K.lookup f22 = some ⟨oc22, od22, .func (PySem.W.fnOf "count_keys" "count_keys" (defArgs s_count_keys) (defBody s_count_keys) (defScope s_count_keys) .none kV22 dc22 pm22 an22 cd22 ct22), sl22⟩)
    (c22 : PySem.W.codeIn K cd22 "count_keys" = true) (k22 : PySem.W.keepIn K (.ref f22) = true)
    (a23 : PySem.W.nsIn K mainGlobals "keys_for" = some (some (.ref f23)))
    (l23 : K.lookup f23 = some ⟨oc23, od23, .func (PySem.W.fnOf "keys_for" "keys_for" (defArgs s_keys_for) (defBody s_keys_for) (defScope s_keys_for) .none kV23 dc23 pm23 an23 cd23 ct23), sl23⟩)
    (c23 : PySem.W.codeIn K cd23 "keys_for" = true) (k23 : PySem.W.keepIn K (.ref f23) = true)
    (a24 : PySem.W.nsIn K mainGlobals "_law_right" = some (some (.ref f24)))
    (l24 : K.lookup f24 = some ⟨oc24, od24, .func (PySem.W.fnOf "_law_right" "_law_right" (defArgs s__law_right) (defBody s__law_right) (defScope s__law_right) .none kV24 dc24 pm24 an24 cd24 ct24), sl24⟩)
    (c24 : PySem.W.codeIn K cd24 "_law_right" = true) (k24 : PySem.W.keepIn K (.ref f24) = true)
    (a25 : PySem.W.nsIn K mainGlobals "_law_words" = some (some (.ref f25)))
    (l25 : K.lookup f25 = some ⟨oc25, od25, .func (PySem.W.fnOf "_law_words" "_law_words" (defArgs s__law_words) (defBody s__law_words) (defScope s__law_words) .none kV25 dc25 pm25 an25 cd25 ct25), sl25⟩)
    (c25 : PySem.W.codeIn K cd25 "_law_words" = true) (k25 : PySem.W.keepIn K (.ref f25) = true)
    (a26 : PySem.W.nsIn K mainGlobals "law" = some (some (.ref f26)))
    (l26 : K.lookup f26 = some ⟨oc26, od26, .func (PySem.W.fnOf "law" "law" (defArgs s_law) (defBody s_law) (defScope s_law) .none kV26 dc26 pm26 an26 cd26 ct26), sl26⟩)
    (c26 : PySem.W.codeIn K cd26 "law" = true) (k26 : PySem.W.keepIn K (.ref f26) = true)
    (z_all : PySem.W.nsIn K mainGlobals "all" = some none)
    (z_isinstance : PySem.W.nsIn K mainGlobals "isinstance" = some none)
    (z_len : PySem.W.nsIn K mainGlobals "len" = some none)
    (z_list : PySem.W.nsIn K mainGlobals "list" = some none)
    (z_max : PySem.W.nsIn K mainGlobals "max" = some none)
    (z_min : PySem.W.nsIn K mainGlobals "min" = some none)
    (z_range : PySem.W.nsIn K mainGlobals "range" = some none)
    (z_repr : PySem.W.nsIn K mainGlobals "repr" = some none)
    (z_reversed : PySem.W.nsIn K mainGlobals "reversed" = some none)
    (z_set : PySem.W.nsIn K mainGlobals "set" = some none)
    (z_sorted : PySem.W.nsIn K mainGlobals "sorted" = some none)
    (z_str : PySem.W.nsIn K mainGlobals "str" = some none)
    (z_type : PySem.W.nsIn K mainGlobals "type" = some none)
    (z_zip : PySem.W.nsIn K mainGlobals "zip" = some none)
    (y_LETTERS : PySem.W.nsIn K mainGlobals "LETTERS" = some (some (.str "abcdefghijklmnopqrstuvwxyz" t_LETTERS)))
    (y_MOST_LETTERS : PySem.W.nsIn K mainGlobals "MOST_LETTERS" = some (some (.int 12 t_MOST_LETTERS)))
    : ∃ fd : FuncData, (∀ (s : Shared) (v : Value), BindsTo s fd ⟨[v], []⟩ [("script", v)]) ∧ ∀ base : Heap, K.In base → base.Ns mainGlobals mg → GFn l.prog w K mg base CX0 10 fa fd ["script"] (sp_law K) := by
  have e := hfa.symm.trans (PySem.W.mg_of X G a26)
  cases e
  have n : Nm mg := ⟨PySem.W.mg_none_of X G z_all, PySem.W.mg_none_of X G z_isinstance, PySem.W.mg_none_of X G z_len, PySem.W.mg_none_of X G z_list, PySem.W.mg_none_of X G z_max, PySem.W.mg_none_of X G z_min, PySem.W.mg_none_of X G z_range, PySem.W.mg_none_of X G z_repr, PySem.W.mg_none_of X G z_reversed, PySem.W.mg_none_of X G z_set, PySem.W.mg_none_of X G z_sorted, PySem.W.mg_none_of X G z_str, PySem.W.mg_none_of X G z_type, PySem.W.mg_none_of X G z_zip, ⟨_, PySem.W.mg_of X G y_LETTERS⟩, ⟨_, PySem.W.mg_of X G y_MOST_LETTERS⟩⟩
  have F0 := fun_mk (st := s__law_cell_at) l0 c0 k0
  have F1 := fun_mk (st := s__law_draw) l1 c1 k1
  have F2 := fun_mk (st := s__law_apart) l2 c2 k2
  have F3 := fun_mk (st := s__law_spelled) l3 c3 k3
  have F4 := fun_mk (st := s__law_fresh) l4 c4 k4
  have F5 := fun_mk (st := s__law_mixed) l5 c5 k5
  have F6 := fun_mk (st := s__law_pool) l6 c6 k6
  have F7 := fun_mk (st := s__law_suggested) l7 c7 k7
  have F8 := fun_mk (st := s__law_typed) l8 c8 k8
  have F9 := fun_mk (st := s_is_text) l9 c9 k9
  have F10 := fun_mk (st := s_is_word) l10 c10 k10
  have F11 := fun_mk (st := s__is_word_list) l11 c11 k11
  have F12 := fun_mk (st := s__least_clash) l12 c12 k12
  have F13 := fun_mk (st := s_is_history) l13 c13 k13
  have F14 := fun_mk (st := s_is_book) l14 c14 k14
  have F15 := fun_mk (st := s_check_book) l15 c15 k15
  have F16 := fun_mk (st := s_check_no_clash) l16 c16 k16
  have F17 := fun_mk (st := s_check_word) l17 c17 k17
  have F18 := fun_mk (st := s__check_entry) l18 c18 k18
  have F19 := fun_mk (st := s_last_with) l19 c19 k19
  have F20 := fun_mk (st := s_typed_letters) l20 c20 k20
  have F21 := fun_mk (st := s_key_text) l21 c21 k21
  have F22 := fun_mk (st := s_count_keys) l22 c22 k22
  have F23 := fun_mk (st := s_keys_for) l23 c23 k23
  have F24 := fun_mk (st := s__law_right) l24 c24 k24
  have F25 := fun_mk (st := s__law_words) l25 c25 k25
  have F26 := fun_mk (st := s_law) l26 c26 k26
  refine ⟨PySem.W.fnOf "law" "law" (defArgs s_law) (defBody s_law) (defScope s_law) .none kV26 dc26 pm26 an26 cd26 ct26, fun s v => .of_eq rfl, fun base _ _ => ?_⟩
  · have C0 : GC l.prog w K mg base 1 "_law_cell_at" (sp__law_cell_at K) := ⟨_, _, _, PySem.W.mg_of X G a0, k0, (F0.binds (ps := ["script", "k"]) fun _ _ _ _ _ _ us hl => match us, hl with | [_, _], _ => rfl), ok__law_cell_at (P := l.prog) (w := w) (base := base) n  F0⟩
    have C1 : GC l.prog w K mg base 1 "_law_draw" (sp__law_draw K) := ⟨_, _, _, PySem.W.mg_of X G a1, k1, (F1.binds (ps := ["pool", "many"]) fun _ _ _ _ _ _ us hl => match us, hl with | [_, _], _ => rfl), ok__law_draw (P := l.prog) (w := w) (base := base) n  F1⟩
    have C2 : GC l.prog w K mg base 1 "_law_apart" (sp__law_apart K) := ⟨_, _, _, PySem.W.mg_of X G a2, k2, (F2.binds (ps := ["terms"]) fun _ _ _ _ _ _ us hl => match us, hl with | [_], _ => rfl), ok__law_apart (P := l.prog) (w := w) (base := base) n  F2⟩
    have C3 : GC l.prog w K mg base 2 "_law_spelled" (sp__law_spelled K) := ⟨_, _, _, PySem.W.mg_of X G a3, k3, (F3.binds (ps := ["pool", "letters", "count"]) fun _ _ _ _ _ _ us hl => match us, hl with | [_, _, _], _ => rfl), ok__law_spelled (P := l.prog) (w := w) (base := base) n C1 F3⟩
    have C4 : GC l.prog w K mg base 3 "_law_fresh" (sp__law_fresh K) := ⟨_, _, _, PySem.W.mg_of X G a4, k4, (F4.binds (ps := ["pool", "shelf"]) fun _ _ _ _ _ _ us hl => match us, hl with | [_, _], _ => rfl), ok__law_fresh (P := l.prog) (w := w) (base := base) n C2 C1 C3 F4⟩
    have C5 : GC l.prog w K mg base 2 "_law_mixed" (sp__law_mixed K) := ⟨_, _, _, PySem.W.mg_of X G a5, k5, (F5.binds (ps := ["pool", "things"]) fun _ _ _ _ _ _ us hl => match us, hl with | [_, _], _ => rfl), ok__law_mixed (P := l.prog) (w := w) (base := base) n C1 F5⟩
    have C6 : GC l.prog w K mg base 1 "_law_pool" (sp__law_pool K) := ⟨_, _, _, PySem.W.mg_of X G a6, k6, (F6.binds (ps := ["cell", "place"]) fun _ _ _ _ _ _ us hl => match us, hl with | [_, _], _ => rfl), ok__law_pool (P := l.prog) (w := w) (base := base) n  F6⟩
    have C7 : GC l.prog w K mg base 1 "_law_suggested" (sp__law_suggested K) := ⟨_, _, _, PySem.W.mg_of X G a7, k7, (F7.binds (ps := ["shelf", "typed"]) fun _ _ _ _ _ _ us hl => match us, hl with | [_, _], _ => rfl), ok__law_suggested (P := l.prog) (w := w) (base := base) n  F7⟩
    have C8 : GC l.prog w K mg base 2 "_law_typed" (sp__law_typed K) := ⟨_, _, _, PySem.W.mg_of X G a8, k8, (F8.binds (ps := ["shelf", "entry"]) fun _ _ _ _ _ _ us hl => match us, hl with | [_, _], _ => rfl), ok__law_typed (P := l.prog) (w := w) (base := base) n C7 F8⟩
    have C9 : GC l.prog w K mg base 1 "is_text" (sp_is_text K) := ⟨_, _, _, PySem.W.mg_of X G a9, k9, (F9.binds (ps := ["value"]) fun _ _ _ _ _ _ us hl => match us, hl with | [_], _ => rfl), ok_is_text (P := l.prog) (w := w) (base := base) n  F9⟩
    have C10 : GC l.prog w K mg base 2 "is_word" (sp_is_word K) := ⟨_, _, _, PySem.W.mg_of X G a10, k10, (F10.binds (ps := ["value"]) fun _ _ _ _ _ _ us hl => match us, hl with | [_], _ => rfl), ok_is_word (P := l.prog) (w := w) (base := base) n C9 F10⟩
    have C11 : GC l.prog w K mg base 3 "_is_word_list" (sp__is_word_list K) := ⟨_, _, _, PySem.W.mg_of X G a11, k11, (F11.binds (ps := ["value"]) fun _ _ _ _ _ _ us hl => match us, hl with | [_], _ => rfl), ok__is_word_list (P := l.prog) (w := w) (base := base) n C10 F11⟩
    have C12 : GC l.prog w K mg base 1 "_least_clash" (sp__least_clash K) := ⟨_, _, _, PySem.W.mg_of X G a12, k12, (F12.binds (ps := ["words"]) fun _ _ _ _ _ _ us hl => match us, hl with | [_], _ => rfl), ok__least_clash (P := l.prog) (w := w) (base := base) n  F12⟩
    have C13 : GC l.prog w K mg base 4 "is_history" (sp_is_history K) := ⟨_, _, _, PySem.W.mg_of X G a13, k13, (F13.binds (ps := ["value"]) fun _ _ _ _ _ _ us hl => match us, hl with | [_], _ => rfl), ok_is_history (P := l.prog) (w := w) (base := base) n C11 C12 F13⟩
    have C14 : GC l.prog w K mg base 5 "is_book" (sp_is_book K) := ⟨_, _, _, PySem.W.mg_of X G a14, k14, (F14.binds (ps := ["value"]) fun _ _ _ _ _ _ us hl => match us, hl with | [_], _ => rfl), ok_is_book (P := l.prog) (w := w) (base := base) n C13 F14⟩
    have C15 : GC l.prog w K mg base 6 "check_book" (sp_check_book K) := ⟨_, _, _, PySem.W.mg_of X G a15, k15, (F15.binds (ps := ["value"]) fun _ _ _ _ _ _ us hl => match us, hl with | [_], _ => rfl), ok_check_book (P := l.prog) (w := w) (base := base) n C14 F15⟩
    have C16 : GC l.prog w K mg base 2 "check_no_clash" (sp_check_no_clash K) := ⟨_, _, _, PySem.W.mg_of X G a16, k16, (F16.binds (ps := ["words"]) fun _ _ _ _ _ _ us hl => match us, hl with | [_], _ => rfl), ok_check_no_clash (P := l.prog) (w := w) (base := base) n C12 F16⟩
    have C17 : GC l.prog w K mg base 3 "check_word" (sp_check_word K) := ⟨_, _, _, PySem.W.mg_of X G a17, k17, (F17.binds (ps := ["value"]) fun _ _ _ _ _ _ us hl => match us, hl with | [_], _ => rfl), ok_check_word (P := l.prog) (w := w) (base := base) n C10 F17⟩
    have C18 : GC l.prog w K mg base 7 "_check_entry" (sp__check_entry K) := ⟨_, _, _, PySem.W.mg_of X G a18, k18, (F18.binds (ps := ["book", "word"]) fun _ _ _ _ _ _ us hl => match us, hl with | [_, _], _ => rfl), ok__check_entry (P := l.prog) (w := w) (base := base) n C15 C16 C17 F18⟩
    have C19 : GC l.prog w K mg base 1 "last_with" (sp_last_with K) := ⟨_, _, _, PySem.W.mg_of X G a19, k19, (F19.binds (ps := ["book", "text"]) fun _ _ _ _ _ _ us hl => match us, hl with | [_, _], _ => rfl), ok_last_with (P := l.prog) (w := w) (base := base) n  F19⟩
    have C20 : GC l.prog w K mg base 2 "typed_letters" (sp_typed_letters K) := ⟨_, _, _, PySem.W.mg_of X G a20, k20, (F20.binds (ps := ["book", "word"]) fun _ _ _ _ _ _ us hl => match us, hl with | [_, _], _ => rfl), ok_typed_letters (P := l.prog) (w := w) (base := base) n C19 F20⟩
    have C21 : GC l.prog w K mg base 8 "key_text" (sp_key_text K) := ⟨_, _, _, PySem.W.mg_of X G a21, k21, (F21.binds (ps := ["book", "word"]) fun _ _ _ _ _ _ us hl => match us, hl with | [_, _], _ => rfl), ok_key_text (P := l.prog) (w := w) (base := base) n C18 C20 F21⟩
    have C21_word_book : GK l.prog w K mg base 8 "key_text" ["word", "book"] [1, 0] (sp_key_text K) := ⟨_, _, ["book", "word"], PySem.W.mg_of X G a21, k21, (fun us hl => match us, hl with | [_, _], _ => rfl), ok_key_text (P := l.prog) (w := w) (base := base) n C18 C20 F21⟩
    have C22 : GC l.prog w K mg base 3 "count_keys" (sp_count_keys K) := ⟨_, _, _, PySem.W.mg_of X G a22, k22, (F22.binds (ps := ["book", "word"]) fun _ _ _ _ _ _ us hl => match us, hl with | [_, _], _ => rfl), ok_count_keys (P := l.prog) (w := w) (base := base) n C20 F22⟩
    have C23 : GC l.prog w K mg base 8 "keys_for" (sp_keys_for K) := ⟨_, _, _, PySem.W.mg_of X G a23, k23, (F23.binds (ps := ["book", "word"]) fun _ _ _ _ _ _ us hl => match us, hl with | [_, _], _ => rfl), ok_keys_for (P := l.prog) (w := w) (base := base) n C18 C22 F23⟩
    have C23_word_book : GK l.prog w K mg base 8 "keys_for" ["word", "book"] [1, 0] (sp_keys_for K) := ⟨_, _, ["book", "word"], PySem.W.mg_of X G a23, k23, (fun us hl => match us, hl with | [_, _], _ => rfl), ok_keys_for (P := l.prog) (w := w) (base := base) n C18 C22 F23⟩
    have C24 : GC l.prog w K mg base 9 "_law_right" (sp__law_right K) := ⟨_, _, _, PySem.W.mg_of X G a24, k24, (F24.binds (ps := ["shelf", "entry"]) fun _ _ _ _ _ _ us hl => match us, hl with | [_, _], _ => rfl), ok__law_right (P := l.prog) (w := w) (base := base) n C8 C21 C23 C21_word_book C23_word_book F24⟩
    have C25 : GC l.prog w K mg base 3 "_law_words" (sp__law_words K) := ⟨_, _, _, PySem.W.mg_of X G a25, k25, (F25.binds (ps := ["pool", "script"]) fun _ _ _ _ _ _ us hl => match us, hl with | [_, _], _ => rfl), ok__law_words (P := l.prog) (w := w) (base := base) n C2 C1 C5 C3 F25⟩
    exact ok_law (P := l.prog) (w := w) (base := base) n C0 C1 C4 C5 C6 C24 C25 C21 C23 F26
end My
open PySem PySem.W PyProof.Rows
set_option maxHeartbeats 0 in
theorem PySem.Challenge.cw_ghosttext_k70_keys_of_words_holds : PySem.Challenge.rw_ghosttext_k70_keys_of_words.Holds := by
  w_on; o_law; k_head; (case hw => w_witness2)
  k_fill
  refine Gd.walk_ofG (l := PySem.Challenge.rw_ghosttext_k70_keys_of_words) (n := 63) (k := 10) (x := "script") (sp := fun w => My.sp_law _) rfl (by decide) rfl ⟨rfl, by decide, by decide⟩ (fun w h Y => PySem.W.kIn_of Y) ?F (fun _ _ a ns hl hb _ hS => My.start_law hl hb hS)
  case F =>
    intro w mg fa h KX G hmg
    refine' My.all_mk KX G hmg ?a0 ?l0 ?c0 ?k0 ?a1 ?l1 ?c1 ?k1 ?a2 ?l2 ?c2 ?k2 ?a3 ?l3 ?c3 ?k3 ?a4 ?l4 ?c4 ?k4 ?a5 ?l5 ?c5 ?k5 ?a6 ?l6 ?c6 ?k6 ?a7 ?l7 ?c7 ?k7 ?a8 ?l8 ?c8 ?k8 ?a9 ?l9 ?c9 ?k9 ?a10 ?l10 ?c10 ?k10 ?a11 ?l11 ?c11 ?k11 ?a12 ?l12 ?c12 ?k12 ?a13 ?l13 ?c13 ?k13 ?a14 ?l14 ?c14 ?k14 ?a15 ?l15 ?c15 ?k15 ?a16 ?l16 ?c16 ?k16 ?a17 ?l17 ?c17 ?k17 ?a18 ?l18 ?c18 ?k18 ?a19 ?l19 ?c19 ?k19 ?a20 ?l20 ?c20 ?k20 ?a21 ?l21 ?c21 ?k21 ?a22 ?l22 ?c22 ?k22 ?a23 ?l23 ?c23 ?k23 ?a24 ?l24 ?c24 ?k24 ?a25 ?l25 ?c25 ?k25 ?a26 ?l26 ?c26 ?k26 ?z_all ?z_isinstance ?z_len ?z_list ?z_max ?z_min ?z_range ?z_repr ?z_reversed ?z_set ?z_sorted ?z_str ?z_type ?z_zip ?y_LETTERS ?y_MOST_LETTERS
    (case a0 => k_is); (case l0 => k_is); (case c0 => k_is); (case k0 => k_is); (case a1 => k_is); (case l1 => k_is); (case c1 => k_is); (case k1 => k_is)
    (case a2 => k_is); (case l2 => k_is); (case c2 => k_is); (case k2 => k_is); (case a3 => k_is); (case l3 => k_is); (case c3 => k_is); (case k3 => k_is)
    (case a4 => k_is); (case l4 => k_is); (case c4 => k_is); (case k4 => k_is); (case a5 => k_is); (case l5 => k_is); (case c5 => k_is); (case k5 => k_is)
    (case a6 => k_is); (case l6 => k_is); (case c6 => k_is); (case k6 => k_is); (case a7 => k_is); (case l7 => k_is); (case c7 => k_is); (case k7 => k_is)
    (case a8 => k_is); (case l8 => k_is); (case c8 => k_is); (case k8 => k_is); (case a9 => k_is); (case l9 => k_is); (case c9 => k_is); (case k9 => k_is)
    (case a10 => k_is); (case l10 => k_is); (case c10 => k_is); (case k10 => k_is); (case a11 => k_is); (case l11 => k_is); (case c11 => k_is); (case k11 => k_is)
    (case a12 => k_is); (case l12 => k_is); (case c12 => k_is); (case k12 => k_is); (case a13 => k_is); (case l13 => k_is); (case c13 => k_is); (case k13 => k_is)
    (case a14 => k_is); (case l14 => k_is); (case c14 => k_is); (case k14 => k_is); (case a15 => k_is); (case l15 => k_is); (case c15 => k_is); (case k15 => k_is)
    (case a16 => k_is); (case l16 => k_is); (case c16 => k_is); (case k16 => k_is); (case a17 => k_is); (case l17 => k_is); (case c17 => k_is); (case k17 => k_is)
    (case a18 => k_is); (case l18 => k_is); (case c18 => k_is); (case k18 => k_is); (case a19 => k_is); (case l19 => k_is); (case c19 => k_is); (case k19 => k_is)
    (case a20 => k_is); (case l20 => k_is); (case c20 => k_is); (case k20 => k_is); (case a21 => k_is); (case l21 => k_is); (case c21 => k_is); (case k21 => k_is)
    (case a22 => k_is); (case l22 => k_is); (case c22 => k_is); (case k22 => k_is); (case a23 => k_is); (case l23 => k_is); (case c23 => k_is); (case k23 => k_is)
    (case a24 => k_is); (case l24 => k_is); (case c24 => k_is); (case k24 => k_is); (case a25 => k_is); (case l25 => k_is); (case c25 => k_is); (case k25 => k_is)
    (case a26 => k_is); (case l26 => k_is); (case c26 => k_is); (case k26 => k_is); (case z_all => k_is); (case z_isinstance => k_is); (case z_len => k_is); (case z_list => k_is)
    (case z_max => k_is); (case z_min => k_is); (case z_range => k_is); (case z_repr => k_is); (case z_reversed => k_is); (case z_set => k_is); (case z_sorted => k_is); (case z_str => k_is)
    (case z_type => k_is); (case z_zip => k_is); (case y_LETTERS => k_is); (case y_MOST_LETTERS => k_is)
