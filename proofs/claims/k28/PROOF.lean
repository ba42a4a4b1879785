import PyProof.Rows.All
import Wide.All
import OpenK.AllK
import Wide.FinOn
import HandS.ForMost
import HandS.IsInst
import PyProof.ReprRoads
import HandS.Walk
import HandS.Text
import PyProof.StrOps2
import PyProof.ReprText
import HandS.Style
import HandS.More
import HandS.WordsDict
import KE.GoesMore
import HandS.Iter
import HandS.DictComp
import HandS.Property
import HandS.TupMul
import HandS.ExcInit
import HandS.ExcField
import HandS.WordsExc
import HandS.ExcOwn
import HandS.TryOnly
import HandS.Zip
import HandS.CallLocal
import HandS.Deep
import HandS.TupAny
import KE.KDictList
import HandS.Star
import PyProof.NeData
import PySem.Challenge.RW_openlanes_k28_standings
set_option Elab.async false
set_option linter.all false
set_option maxRecDepth 100000
set_option maxHeartbeats 4000000
/-! Own rules: defs that may show data (no display is under way), and the law's end for them. -/
namespace Ol
open PySem PySem.Spec PyProof.Rows L2

/-- a def's promise where no display is under way -/
structure FnG (P : Program) (w : World) (K : PySem.W.Frag)
    (mg : Str → Option Value) (base : Heap) (k : Nat)
    (f : Addr) (fd : FuncData) (ps : List Str) (sp : Sp) : Prop where
  len : ∀ vs H Q E, sp vs H Q E → vs.length = ps.length
  go : ∀ (A : Around) (outer : List Env) (s : Shared) (H : Hp)
    (args : Args) (us : List Value) (vs : List V) (Q : VK) (E : XK),
    A.guards = some [] → Room k A → Env0 P w K mg base A outer s H →
    BindsTo s fd args (ps.zip us) → Vals vs us → sp vs H Q E →
    codeAny (model P w) A (.call (.ref f) args)
      (CR CX0 outer P w H s Q E) s

section
variable {P : Program} {w : World} {K : PySem.W.Frag}
  {mg : Str → Option Value} {base : Heap} {k : Nat}

theorem FnG.of {f : Addr} {fd : FuncData} {ps : List Str} {sp : Sp}
    (F : FnOk P w K mg base CX0 k f fd ps sp) : FnG P w K mg base k f fd ps sp :=
  ⟨F.len, fun A o s H as us vs Q E _ r => F.run A o s H as us vs Q E r⟩

/-- the rule for a def, its body's context has no display under way -/
theorem okG {x qual : Str} {st : Stmt} {f : Addr} {fd : FuncData}
    {N ps : List Str} {sp : Sp} (F : Fun K x qual st f fd)
    (S : FnScope N ps (defScope st))
    (len : ∀ vs H Q E, sp vs H Q E → vs.length = ps.length)
    (body : ∀ (cdv : Value) (A : Around) (outer : List Env) (s : Shared)
      (H : Hp) (vs : List V) (Q : VK) (E : XK),
      (A.deeper (envOfC qual (defScope st) s.heap.objs.size f cdv)).guards = some [] →
      Room k (A.deeper (envOfC qual (defScope st) s.heap.objs.size f cdv)) →
      sp vs H Q E → ∃ t,
        PSs (cxOf CX0 P w K mg base N qual (defScope st) f cdv A outer s H E).nox
          (defBody st) t ∧
        t { nx := fun _ H' => Q .non H', rt := Q } (start N vs) H) :
    FnG P w K mg base (k + 1) f fd ps sp := by
  obtain ⟨oc, od, kV, doc, pm, an, cdv, ct, osl, rfl, lk, hcd⟩ := F.ex
  refine ⟨len, ?_⟩
  intro A outer s H args us vs Q E hG room e0 hb rv hsp
  have hlen := len _ _ _ _ hsp
  have kin : K.In s.heap :=
    e0.mod.kin.keeps (fun b o e => (e0.bs b o e).1)
  have nol : s.heap.NoLimit :=
    e0.mod.nolimit.keeps (fun b o e => (e0.bs b o e).1)
  have kinds : ∀ y ∈ ps.zip us,
      (defScope st).names.lookup y.1 = some .local ∨
      ((defScope st).names.lookup y.1 = some .cell ∧
        ((cellsFrom (s.heap.objs.size + 1) (defScope st).names []).lookup y.1).isSome = true) := by
    rintro ⟨n, v⟩ hy
    cases S.par n (List.of_mem_zip hy).1 with
    | inl q => exact Or.inl q
    | inr q => exact Or.inr ⟨q, PySem.W.cellsFrom_some _ _ _ (Or.inl q)⟩
  refine codeAny_call_function room.depth (kin _ _ lk) rfl S.co S.gen rfl
    (PySem.W.codeRec_of kin hcd) (hb _ _ _ _ ?_)
  refine wpAny_newFunctionEnv_cells S.kind kinds ?_
  intro env he s1 x
  subst he
  refine ⟨nol.keeps x.toInCall.keep, codeAny_func ?_⟩
  have hG' : (A.deeper (envOfC qual (defScope st) s.heap.objs.size f cdv)).guards = some [] := by
    exact hG
  obtain ⟨t, ht0, hq⟩ := body cdv A outer s H vs Q E hG' (room.deeper _) hsp
  have ht := ht0.nox
  have I := inv_start (CX := CX0) (E := E) S room.hd e0 hlen rv x
  have out : ∀ {σ' : L2.St} {H' : Hp} {v : V} {u : Value} {s' : Shared},
      Inv (cxOf CX0 P w K mg base N qual (defScope st) f cdv A outer s H E) [] σ' H' s' →
      RelV v u → Q v H' → CE outer P w H s Q u s' :=
    fun J r q => ⟨_, _, J.os, J.bare, J.base, J.hok, r, q⟩
  refine wpAny_mono (ht.run [] s1 (start N vs) H _ I hq) ?_ (fun _ _ z => z)
  intro fl s' hs
  cases fl with
  | next =>
    obtain ⟨_, _, J, q⟩ := hs
    exact out (v := V.non) (u := Value.none) J rfl q
  | ret u =>
    obtain ⟨_, _, _, J, r, q⟩ := hs
    exact out J r q
  | brk => exact hs.choose_spec.choose_spec.2.elim
  | cont => exact hs.choose_spec.choose_spec.2.elim
end

section
variable {X : Cx} {k : Nat} {f : Addr} {fd : FuncData} {ps : List Str}
  {sp : Sp} {E : XK} {x : Str} {e : Expr} {es : List Expr} {t : TA}
  {p pos : Pos} {ds : List Value} {dvs : List V}
/-- f(..) of such a def -/
theorem pe_callG (F : FnG X.prog X.w X.K X.mg X.base k f fd ps sp)
    (hG : X.A.guards = some []) (hr : Room k X.A) (hg : Gl X x)
    (hm : X.mg x = some (.ref f)) (hk : PySem.W.keepIn X.K (.ref f) = true)
    (hb : Binds X.K fd ps []) (ha : PA X (e :: es) t)
    (hdb : (x == ("__debug__" : Str)) = false := by decide)
    (he : starEach (e :: es) X.env = (false, eval e X.env) :: starEach es X.env := by rfl)
    (hpl : (backTo pos (starEach es X.env)).any (·.1) = false := by rfl) :
    PE X (.Call (.Name x p) (e :: es) [] pos) (tCall sp [] E0 t) := by
  constructor
  intro pins s σ H Q I h
  apply wpAny_Call_Name_kw
  apply ld_glob I hg hm (hd := hdb)
  refine PySem.W.callWith_K (h₀ := X.base) I.ok.mod.kin hk ?_ he hpl
  refine thn (ha.run pos pins s σ H _ I h) ?_
  rintro us s1 ⟨vs, H1, I1, r, q⟩
  refine ⟨I1.kIn, ?_⟩
  have q' : sp vs H1 Q E0 := by
    have z : sp (vs ++ []) H1 Q E0 := q
    rwa [List.append_nil] at z
  have hl : us.length = ps.length := by
    rw [← r.length]
    exact F.len _ _ _ _ q'
  have hbs := hb s1 us I1.kIn (by simpa using hl)
  rw [List.append_nil] at hbs
  refine wpAny_call (codeAny_mono (F.go X.A X.stack s1 H1 ⟨us, []⟩ us vs Q E0 hG hr I1.env0 hbs r q') ?_)
  intro res s2 hres
  cases res with
  | error z => exact False.elim hres
  | ok fl =>
    cases fl with
    | ret u => exact I1.after hres
    | next => exact False.elim hres
    | brk => exact False.elim hres
    | cont => exact False.elim hres
end
end Ol

set_option Elab.async false
set_option linter.all false
set_option maxRecDepth 100000
set_option maxHeartbeats 4000000
namespace Ol
open PySem PySem.Spec PyProof.Rows L2

/-- the table of modules is set aside: no list stands there -/
def Sys (H : Hp) : Prop := ∃ o u, H sysModules = some (.frz o u)

/-- every tracked object is locked -/
def Lockd (H : Hp) : Prop := ∀ b u, H b = some u → ∃ o v, u = .frz o v

section
variable {P : Program} {w : World} {K : PySem.W.Frag} {mg mb : Str → Option Value}
  {k : Nat} {fa a : Addr} {fd : FuncData} {x : Str} {sp : Sp} {s1 : Shared}

/-- the call of the law from a heap in which some objects are locked -/
theorem enterG (H : Hp) (hL : Lockd H) (ok : HOk P w H s1.heap)
    (hK : ∀ b, H b ≠ none → K.lookup b = none)
    (hN : ∀ b m, s1.heap.Ns b m → (b = 0 ∨ b = 3 ∨ b = cStatics) → H b = none)
    (kin : K.In s1.heap) (hns : s1.heap.Ns mainGlobals mg) (hb : s1.heap.Ns builtinsNs mb)
    (hbb : ∀ y : Str, y ≠ "__name__" → mb y = bootBuiltins y)
    (hlim : s1.heap.NoLimit) (hg : s1.gens = #[]) (hr : Room k callerA)
    (F : ∀ base : Heap, K.In base → base.Ns mainGlobals mg → FnG P w K mg base k fa fd [x] sp)
    (bind : ∀ (s : Shared) (u : Value), BindsTo s fd ⟨[u], []⟩ [(x, u)])
    (hsp : sp [.ref a] H (fun v _ => v = .bl true) E0) :
    codeAny (model P w) callerA (.call (.ref fa) ⟨[.ref a], []⟩)
      (fun r s' => r = .ok (.ret (.bool true)) ∧ OldK s1.heap s'.heap ∧
        s'.os = s1.os ∧ AllBare s'.gens) s1 := by
  have ns : ∀ {b : Addr} {m : Str → Option Value}, s1.heap.Ns b m →
      (b = 0 ∨ b = 3 ∨ b = cStatics) → (hidT s1.heap H).Ns b m := by
    intro b m h c
    have n := hN b m h c
    obtain ⟨o, es, ep, e, r⟩ := h
    exact ⟨o, es, ep, hidT_get e n, r⟩
  have kb : K.In (hidT s1.heap H) := by
    intro b o e
    refine hidT_get (kin b o e) ?_
    cases q : H b with
    | none => rfl
    | some u =>
      have z := hK b (by rw [q]; exact fun t => nomatch t)
      rw [z] at e
      cases e
  have gl : (hidT s1.heap H).Ns mainGlobals mg := ns hns (Or.inr (Or.inl rfl))
  have md : Mod K mg (hidT s1.heap H) := by
    refine ⟨kb, gl, ⟨mb, ns hb (Or.inl rfl), hbb⟩, ?_⟩
    obtain ⟨mc, h1, h2⟩ := hlim
    exact ⟨mc, ns h1 (Or.inr (Or.inr rfl)), h2⟩
  have e0 : Env0 P w K mg (hidT s1.heap H) callerA [] s1 H := by
    refine ⟨rfl, md, fun b o e => of_hidT e, Nat.le_of_eq (hidT_size _ _), trivial, ?_, ok, .of_eq hg⟩
    intro b hb
    cases hb
  have run := (F _ kb gl).go callerA [] s1 H ⟨[.ref a], []⟩ [.ref a] [.ref a]
    (fun v _ => v = .bl true) E0 rfl hr e0 (bind s1 (.ref a)) (.cons rfl .nil) hsp
  refine codeAny_mono run ?_
  intro r s' h
  match r, h with
  | .error e, h => exact h.elim
  | .ok .next, h => exact h.elim
  | .ok .brk, h => exact h.elim
  | .ok .cont, h => exact h.elim
  | .ok (.ret u), h =>
    obtain ⟨v, H', os, bare, un, ok', rv, q⟩ := h
    have q' : v = .bl true := q
    subst q'
    have eu : u = Value.bool true := rv
    subst eu
    refine ⟨rfl, OldK.of_keep ?_, os, bare⟩
    intro b o e
    cases q : H b with
    | none => exact un.keep b o e q (fun z => nomatch z) (fun z => nomatch z)
    | some u =>
      obtain ⟨ob, v, rfl⟩ := hL b u q
      have q2 := un.frzs b ob v q
      have e1 : s1.heap.get? b = some ob := (ok b _ q).1
      have e2 : s'.heap.get? b = some ob := (ok' b _ q2).1
      rw [e] at e1
      cases e1
      exact e2

/-- the law's heap at its entry: the script locked (or of the module), the table of modules locked -/
theorem law_callG {vs : List Value} {ns : List Int}
    (kin : K.In s1.heap) (kS : K.lookup sysModules = none)
    (hS : ∃ o, s1.heap.get? sysModules = some o)
    (hns : s1.heap.Ns mainGlobals mg) (hb : s1.heap.Ns builtinsNs mb)
    (hbb : ∀ y : Str, y ≠ "__name__" → mb y = bootBuiltins y)
    (hlim : s1.heap.NoLimit) (hg : s1.gens = #[])
    (ha : s1.heap.get? a = some { cls := .type "list", data := .seq vs.toArray })
    (hi : IntsAre vs ns) (hl : ns.length ≤ sizeLine) (hr : Room k callerA)
    (F : ∀ base : Heap, K.In base → base.Ns mainGlobals mg → FnG P w K mg base k fa fd [x] sp)
    (bind : ∀ (s : Shared) (u : Value), BindsTo s fd ⟨[u], []⟩ [(x, u)])
    (hsp : ∀ H : Hp, Sys H → SqL K H a (ns.map V.int) → sp [.ref a] H (fun v _ => v = .bl true) E0) :
    codeAny (model P w) callerA (.call (.ref fa) ⟨[.ref a], []⟩)
      (fun r s' => r = .ok (.ret (.bool true)) ∧ OldK s1.heap s'.heap ∧
        s'.os = s1.os ∧ AllBare s'.gens) s1 := by
  have rv := vals_ints hi
  obtain ⟨o1, ho1⟩ := hS
  -- no namespace is locked
  have dat : ∀ b m, s1.heap.Ns b m → b ≠ a := by
    rintro b m ⟨o, es, ep, e, d, _⟩ rfl
    rw [ha] at e
    cases e
    have d' : Data.seq vs.toArray _ = Data.dict es ep := d
    cases d'
  have nsys : ∀ b : Addr, (b = 0 ∨ b = 3 ∨ b = cStatics) → b ≠ sysModules := by
    rintro b (rfl | rfl | rfl) <;> decide
  have okS : ∀ H : Hp, ObjOk P w H s1.heap sysModules (.frz o1 (.ext fun _ => True)) :=
    fun H => ⟨ho1, trivial, ⟨o1, ho1⟩, fun _ _ _ _ => trivial⟩
  cases hk : K.lookup a with
  | some o =>
    have e := kin a o hk
    rw [ha] at e
    cases e
    have hL : SqL K (fun b => if b = sysModules then some (.frz o1 (.ext fun _ => True)) else none) a (ns.map V.int) := by
      refine Or.inr ⟨_, vs.toArray, _, hk, rfl, rfl, rfl, ?_, by simpa using rv⟩
      rw [List.size_toArray, hi.length]
      exact hl
    refine enterG (fun b => if b = sysModules then some (.frz o1 (.ext fun _ => True)) else none)
      ?_ ?_ ?_ ?_ kin hns hb hbb hlim hg hr F bind (hsp _ ⟨o1, _, if_pos rfl⟩ hL)
    · intro b u q
      by_cases c : b = sysModules
      · have q' := (if_pos c).symm.trans q
        cases q'
        exact ⟨_, _, rfl⟩
      · have q' := (if_neg c).symm.trans q
        cases q'
    · intro b u q
      by_cases c : b = sysModules
      · have q' := (if_pos c).symm.trans q
        cases q'
        subst c
        exact okS _
      · have q' := (if_neg c).symm.trans q
        cases q'
    · intro b q
      by_cases c : b = sysModules
      · subst c
        exact kS
      · exact absurd (if_neg c) q
    · intro b m _ c
      exact if_neg (nsys b c)
  | none =>
    let H0 : Hp := fun b => if b = a then some (.frz { cls := .type "list", data := .seq vs.toArray } (.lst (ns.map V.int)))
      else if b = sysModules then some (.frz o1 (.ext fun _ => True)) else none
    have at_a : H0 a = some (.frz { cls := .type "list", data := .seq vs.toArray } (.lst (ns.map V.int))) := if_pos rfl
    have sysH : Sys H0 := by
      by_cases c : sysModules = a
      · exact ⟨_, _, if_pos c⟩
      · exact ⟨o1, _, (if_neg c).trans (if_pos rfl)⟩
    refine enterG H0 ?_ ?_ ?_ ?_ kin hns hb hbb hlim hg hr F bind (hsp _ sysH (Or.inl (Or.inr ⟨_, at_a⟩)))
    · intro b u q
      by_cases c : b = a
      · have q' := (if_pos c).symm.trans q
        cases q'
        exact ⟨_, _, rfl⟩
      · by_cases c2 : b = sysModules
        · have q' := ((if_neg c).trans (if_pos c2)).symm.trans q
          cases q'
          exact ⟨_, _, rfl⟩
        · have q' := ((if_neg c).trans (if_neg c2)).symm.trans q
          cases q'
    · intro b u q
      by_cases c : b = a
      · have q' := (if_pos c).symm.trans q
        cases q'
        subst c
        exact ⟨ha, by rw [List.length_map]; exact hl, vs, _, rv, ha⟩
      · by_cases c2 : b = sysModules
        · have q' := ((if_neg c).trans (if_pos c2)).symm.trans q
          cases q'
          subst c2
          exact okS _
        · have q' := ((if_neg c).trans (if_neg c2)).symm.trans q
          cases q'
    · intro b q
      by_cases c : b = a
      · rw [c]
        exact hk
      · by_cases c2 : b = sysModules
        · rw [c2]
          exact kS
        · exact absurd ((if_neg c).trans (if_neg c2)) q
    · intro b m h c
      exact (if_neg (dat b m h)).trans (if_neg (nsys b c))
end

/-- the end of a law's row, by a promise of FnG -/
theorem walkG {l : PySem.W.OpenLaw} {n k : Nat} {q : Program} {loose : List Str}
    {XP : (Str → Option Value) → Heap → Prop} {YP : World → Heap → Prop} {d : DefRec}
    {K : Params → PySem.W.Frag} {sp : World → Sp} {x : Str}
    (hn : l.most = some n) (him : importsNone q = true) (hn2 : n ≤ sizeLine) (hdf : d.params.defaults = []) (hr : Room k callerA)
    (hY : ∀ (w : World) (h : Heap), YP w h → (K w.params).In h)
    (kS : ∀ w : World, (K w.params).lookup sysModules = none)
    (F : ∀ (w : World) (mg : Str → Option Value) (fa : Addr) (h : Heap),
      (K w.params).In h → h.Ns mainGlobals mg → mg d.name = some (.ref fa) →
      ∃ fd : FuncData, (∀ (s : Shared) (u : Value), BindsTo s fd ⟨[u], []⟩ [(x, u)]) ∧
        ∀ base : Heap, (K w.params).In base → base.Ns mainGlobals mg →
          FnG l.prog w (K w.params) mg base k fa fd [x] (sp w))
    (hsp : ∀ (w : World) (H : Hp) (a : Addr) (ns : List Int), ns.length ≤ n → Sys H →
      SqL (K w.params) H a (ns.map V.int) → sp w [.ref a] H (fun v _ => v = .bl true) E0) :
    PySem.W.WalkO q loose XP YP l.row.toRowW d [] (fun f vs => PySem.call f vs) := by
  refine Att.attach_call hn hdf ?_
  intro w s0 s1 mg mb fa o pm cd doc a vs ns G Y ho hd hcd hmg hobj hints hlen hg
  have kin := hY w _ Y
  obtain ⟨fd, hb, hF⟩ := F w mg fa _ kin G.T.g hmg
  have hS : ∃ o, s1.heap.get? sysModules = some o := by
    obtain ⟨mm, ⟨o, es, ep, e, _⟩, _⟩ := (G.T.seer him).mods
    exact ⟨o, e⟩
  exact law_callG kin (kS w) hS G.T.g G.T.b G.T.builtins G.T.nolimit hg hobj hints
    (Nat.le_trans hlen hn2) hr hF hb (fun H h1 h2 => hsp w H a ns hlen h1 h2)
end Ol

set_option Elab.async false
set_option linter.all false
set_option maxRecDepth 100000
set_option maxHeartbeats 4000000
namespace Ol
open PySem PySem.Spec PyProof.Rows L2

/-- a key of a dict as data -/
def keyD : Key → PyData
  | .inl i => .int i
  | .inr x => .str x

/-! ### data of any depth, dicts with ints and texts as keys too -/
mutual
inductive Dq (H : Hp) : V → PyData → Prop
  | non : Dq H .non .none
  | bl (b : Bool) : Dq H (.bl b) (.bool b)
  | int (i : Int) : Dq H (.int i) (.int i)
  | str (x : Str) : Dq H (.str x) (.str x)
  | lst {a : Addr} {xs : List V} {ds : List PyData} :
      H a = some (.lst xs) → DqAll H xs ds → Dq H (.ref a) (.list ds)
  | tup {a : Addr} {xs : List V} {ds : List PyData} :
      H a = some (.tup xs) → DqAll H xs ds → Dq H (.ref a) (.tuple ds)
  | dct {a : Addr} {kvs : List (Key × V)} {ds : List PyData} :
      H a = some (.dK kvs) → DqAll H (kvs.map (·.2)) ds →
      Dq H (.ref a) (.dict ((kvs.map fun kv => keyD kv.1).zip ds))
inductive DqAll (H : Hp) : List V → List PyData → Prop
  | nil : DqAll H [] []
  | cons {v : V} {vs : List V} {d : PyData} {ds : List PyData} :
      Dq H v d → DqAll H vs ds → DqAll H (v :: vs) (d :: ds)
end

theorem DqAll.len {H : Hp} : ∀ {vs : List V} {ds : List PyData}, DqAll H vs ds → vs.length = ds.length
  | [], _, h => by cases h; rfl
  | v :: vs, _, h => by
    cases h with
    | cons _ t => rw [List.length_cons, List.length_cons, t.len]

/-- what is tracked in H stands in H' as well -/
def Ext (H H' : Hp) : Prop := ∀ b o, H b = some o → H' b = some o

mutual
theorem Dq.up {H H' : Hp} (e : Ext H H') : ∀ {v : V} {d : PyData}, Dq H v d → Dq H' v d
  | _, _, .non => .non
  | _, _, .bl b => .bl b
  | _, _, .int i => .int i
  | _, _, .str x => .str x
  | _, _, .lst h t => .lst (e _ _ h) (DqAll.up e t)
  | _, _, .tup h t => .tup (e _ _ h) (DqAll.up e t)
  | _, _, .dct h t => .dct (e _ _ h) (DqAll.up e t)
theorem DqAll.up {H H' : Hp} (e : Ext H H') : ∀ {vs : List V} {ds : List PyData}, DqAll H vs ds → DqAll H' vs ds
  | _, _, .nil => .nil
  | _, _, .cons h t => .cons (Dq.up e h) (DqAll.up e t)
end

section
variable {X : Cx} {pins : List (Addr × Obj)} {σ : L2.St} {H : Hp} {s : Shared}

theorem keys_reads {h : Heap} {knd : List (Key × Value)} : ∀ {kvs : List (Key × V)} {es : List DictEntry} {vs : List (Key × Value)},
    L2.KV kvs vs → Pairs (mixKind X.prog X.w) es vs →
    ReadsAll h (es.map (·.key)) (kvs.map fun kv => keyD kv.1) [] ∧ Vals (kvs.map (·.2)) (es.map (·.val))
  | [], es, _, r, p => by
    cases r
    cases p
    exact ⟨.nil, .nil⟩
  | kv :: kvs, es, _, r, p => by
    cases r with
    | cons r1 r2 =>
      cases p with
      | cons p1 p2 p3 =>
        obtain ⟨q1, q2⟩ := keys_reads (h := h) (knd := knd) r2 p3
        refine ⟨?_, .cons ?_ q2⟩
        case refine_2 =>
          have z := r1.2
          rw [← p2] at z
          exact z
        have e1 := r1.1
        rw [← e1] at p1
        rcases keyIs_shape p1 with ⟨i, t, e, e'⟩ | ⟨x, t, e, e'⟩
        · have z := ReadsAll.cons (Reads.int (h := h) i t) q1
          rw [List.map_cons, List.map_cons, e, e']
          exact z
        · have z := ReadsAll.cons (Reads.str (h := h) x t) q1
          rw [List.map_cons, List.map_cons, e, e']
          exact z

theorem zip_fst {α β : Type} : ∀ {xs : List α} {ys : List β}, xs.length = ys.length → (xs.zip ys).map (·.1) = xs
  | [], _, _ => by simp
  | x :: xs, [], h => by simp at h
  | x :: xs, y :: ys, h => by
    rw [List.zip_cons_cons, List.map_cons, zip_fst (by simpa using h)]
theorem zip_snd {α β : Type} : ∀ {xs : List α} {ys : List β}, xs.length = ys.length → (xs.zip ys).map (·.2) = ys
  | [], [], _ => by simp
  | [], y :: ys, h => by simp at h
  | x :: xs, [], h => by simp at h
  | x :: xs, y :: ys, h => by
    rw [List.zip_cons_cons, List.map_cons, zip_snd (by simpa using h)]

mutual
theorem Dq.reads (I : Inv X pins σ H s) (S : Sys H) : ∀ {v : V} {d : PyData} {u : Value}, Dq H v d → RelV v u →
    ∃ as, Reads s.heap u d as ∧ sysModules ∉ as
  | _, _, _, .non, r => by
    cases r
    exact ⟨_, Reads.none, nofun⟩
  | _, _, _, .bl b, r => by
    cases r
    exact ⟨_, Reads.bool b, nofun⟩
  | _, _, _, .int i, r => by
    obtain ⟨t, rfl⟩ := r
    exact ⟨_, Reads.int i t, nofun⟩
  | _, _, _, .str x, r => by
    obtain ⟨t, rfl⟩ := r
    exact ⟨_, Reads.str x t, nofun⟩
  | _, _, _, .lst (a := a) (xs := xs) h t, r => by
    cases r
    obtain ⟨_, its, n, rv, e⟩ := I.hok a _ h
    obtain ⟨as, q, n1⟩ := DqAll.reads I S t rv
    refine ⟨_, Reads.list e rfl rfl q, ?_⟩
    intro m
    rcases List.mem_cons.mp m with m | m
    · obtain ⟨o, u, hs⟩ := S
      rw [m, h] at hs
      cases hs
    · exact n1 m
  | _, _, _, .tup (a := a) (xs := xs) h t, r => by
    cases r
    obtain ⟨_, its, rv, o, e, c, n, d⟩ := I.hok a _ h
    obtain ⟨as, q, n1⟩ := DqAll.reads I S t rv
    exact ⟨_, Reads.tuple e c d q, n1⟩
  | _, _, _, .dct (a := a) (kvs := kvs) (ds := ds) h t, r => by
    cases r
    obtain ⟨_, na, vs, rel, o, es, ep, e, ex, hd, _, pr, _⟩ := I.hok a _ h
    obtain ⟨q1, q2⟩ := keys_reads (X := X) (h := s.heap) (knd := vs) rel pr
    obtain ⟨bs, q3, n1⟩ := DqAll.reads I S t q2
    have hl : (kvs.map fun kv => keyD kv.1).length = ds.length := by
      rw [List.length_map, ← t.len, List.length_map]
    refine ⟨_, Reads.dict (kvs := (kvs.map fun kv => keyD kv.1).zip ds) e ex.1 hd (as := []) (bs := bs) ?_ ?_, ?_⟩
    · rw [zip_fst hl]
      exact q1
    · rw [zip_snd hl]
      exact q3
    · intro m
      rcases List.mem_cons.mp m with m | m
      · rw [← m] at na
        exact absurd na (by decide)
      · exact n1 (by simpa using m)
theorem DqAll.reads (I : Inv X pins σ H s) (S : Sys H) : ∀ {vs : List V} {ds : List PyData} {us : List Value}, DqAll H vs ds → Vals vs us →
    ∃ as, ReadsAll s.heap us ds as ∧ sysModules ∉ as
  | _, _, _, .nil, r => by
    cases r
    exact ⟨_, ReadsAll.nil, nofun⟩
  | _, _, _, .cons h t, r => by
    cases r with
    | cons r1 r2 =>
      obtain ⟨as, q1, n1⟩ := Dq.reads I S h r1
      obtain ⟨bs, q2, n2⟩ := DqAll.reads I S t r2
      refine ⟨_, ReadsAll.cons q1 q2, ?_⟩
      intro m
      rcases List.mem_append.mp m with m | m
      · exact n1 m
      · exact n2 m
end
end

/-- repr(x) of data -/
def rRepr : List V → Hp → VK → Prop := fun vs H Q => ∃ v d, vs = [v] ∧ Sys H ∧ Dq H v d ∧
  d.showable = true ∧ d.depth ≤ 40 ∧ d.shown.length ≤ sizeLine ∧ Q (.str d.shown) H

theorem call_reprD {X : Cx} {k : Nat} (hG : X.A.guards = some []) (hr : Room k X.A) : CallR X (.builtin "repr") rRepr := by
  intro pins s σ H vs us Q I r h
  obtain ⟨v, d, rfl, S, hd, hs, hdp, hz, q⟩ := h
  obtain ⟨u, rfl, ru⟩ := vals1 r
  have hu := hr.units
  obtain ⟨as, rd, n1⟩ := Dq.reads I S hd ru
  have leaf : ∀ {x : Str}, x = d.shown → EP X pins σ Q (.str x s.toks) { s with toks := s.toks + 1 } := by
    rintro x rfl
    exact ⟨.str _, H, I.tok _, ⟨_, rfl⟩, q⟩
  cases hd with
  | non =>
    cases ru
    exact PySem.P.repr_of_none (leaf (by simp only [PyData.shown]))
  | bl b =>
    cases ru
    exact PySem.P.repr_of_bool (leaf (by simp only [PyData.shown]))
  | int i =>
    obtain ⟨t, rfl⟩ := ru
    exact PySem.P.repr_of_int (by simpa [PyData.showable] using hs) (leaf (by simp only [PyData.shown]))
  | str x =>
    obtain ⟨t, rfl⟩ := ru
    exact PySem.P.repr_of_str (leaf (by simp only [PyData.shown])) (by simpa only [PyData.shown] using hz)
  | lst h t =>
    cases ru
    exact repr_of_reads' rd hs (fun _ => n1) hG (by omega) (fun _ _ e => e)
      (fun h' u tk hk => ⟨.str _, H, I.kept (t' := tk) hk, ⟨u, rfl⟩, q⟩) hz
  | tup h t =>
    cases ru
    exact repr_of_reads' rd hs (fun _ => n1) hG (by omega) (fun _ _ e => e)
      (fun h' u tk hk => ⟨.str _, H, I.kept (t' := tk) hk, ⟨u, rfl⟩, q⟩) hz
  | dct h t =>
    cases ru
    exact repr_of_reads' rd hs (fun _ => n1) hG (by omega) (fun _ _ e => e)
      (fun h' u tk hk => ⟨.str _, H, I.kept (t' := tk) hk, ⟨u, rfl⟩, q⟩) hz
end Ol

set_option Elab.async false
set_option linter.all false
set_option maxRecDepth 100000
set_option maxHeartbeats 4000000
namespace Ol
open PySem PySem.Spec PyProof.Rows L2

theorem Ext.refl (H : Hp) : Ext H H := fun _ _ e => e
theorem Ext.trans {H H1 H2 : Hp} (a : Ext H H1) (b : Ext H1 H2) : Ext H H2 := fun c o e => b c o (a c o e)
theorem Ext.new {H : Hp} {p : Addr} {o : HO} (h : H p = none) : Ext H (upd H p o) := fun b u e => by
  rw [upd_ne (ne_of_none e h)]
  exact e
/-- what was not tracked at the start may change -/
theorem Ext.mut {H H' : Hp} {p : Addr} {o : HO} (e : Ext H H') (h : H p = none) : Ext H (upd H' p o) := fun b u eb => by
  rw [upd_ne (ne_of_none eb h)]
  exact e b u eb
theorem Ext.free {H H' : Hp} (e : Ext H H') {p : Addr} (h : H' p = none) : H p = none := by
  cases q : H p with
  | none => rfl
  | some o =>
    rw [e p o q] at h
    cases h

/-- xs[j] read, for xs[j] += e -/
def rGetL (K : PySem.W.Frag) : V → V → Hp → VK → Prop := fun x y H Q => ∃ (p : Addr) (xs : List V) (j : Nat) (v : V),
  x = .ref p ∧ y = .int (j : Int) ∧ SqL K H p xs ∧ xs[j]? = some v ∧ Q v H
theorem get_list {X : Cx} : PGet X (rGetL X.K) := by
  intro pins s σ H o i ov iv Q I ro ri h
  obtain ⟨p, xs, j, v, rfl, rfl, hq, hj, q⟩ := h
  cases ro
  obtain ⟨t, rfl⟩ := ri
  obtain ⟨its, r, pl, hz⟩ := I.list hq
  obtain ⟨u, eu, ru⟩ := r.get hj
  have hlt : j < xs.length := (List.getElem?_eq_some_iff.mp hj).1
  have h63 := line63
  refine wpAny_getItem_list (x := u) pl.isList (by omega) (by omega) (by simpa using eu) ?_
  exact ⟨v, H, I, ru, q⟩

/-- one statement, then the rest of a block, with what holds between -/
theorem cutB {X : Cx} {s : Stmt} {r : List Stmt} {D : Ends} {σ : L2.St} {H : Hp} (W : L2.St → Hp → Prop)
    (h2 : ∃ t2, PSs X r t2 ∧ ∀ σ' H', W σ' H' → t2 D σ' H')
    (h1 : ∃ t1, PS X s t1 ∧ ∀ nx : L2.St → Hp → Prop, (∀ σ' H', W σ' H' → nx σ' H') → t1 { D with nx := nx } σ H) :
    ∃ t, PSs X (s :: r) t ∧ t D σ H := by
  obtain ⟨t2, d2, k2⟩ := h2
  obtain ⟨t1, d1, k1⟩ := h1
  exact ⟨_, pss_cons d1 d2, k1 _ k2⟩

/-- no built-in name is taken by the module -/
structure BT (mg : Str → Option Value) : Prop where
  n_len : mg "len" = none
  n_int : mg "int" = none
  n_abs : mg "abs" = none
  n_range : mg "range" = none
  n_repr : mg "repr" = none
  n_isinstance : mg "isinstance" = none
  n_all : mg "all" = none
  n_tuple : mg "tuple" = none
  n_list : mg "list" = none
  n_str : mg "str" = none
  n_bool : mg "bool" = none
  n_dict : mg "dict" = none
  n_sorted : mg "sorted" = none

/-! ### the bag: a list of three ints and the cells; its ints are set aside -/
def bagL (b0 b1 b2 : Int) (c : Addr) : List V := [.int b0, .int b1, .int b2, .ref c]
structure BagI (b0 b1 b2 : Int) : Prop where
  h0 : 0 ≤ b0
  h1 : 0 ≤ b1
  h1' : b1 < 2147483647
  h2 : 0 ≤ b2
def bagP (a c : Addr) : Heap → Prop := fun h => ∃ (b0 b1 b2 : Int) (t0 t1 t2 : Tok) (n : Nat),
  h.get? a = some { cls := .type "list", data := .seq #[.int b0 t0, .int b1 t1, .int b2 t2, .ref c] n } ∧ BagI b0 b1 b2
def Bag (H : Hp) (a : Addr) : Prop := ∃ (c : Addr) (ns : List Int), H a = some (.ext (bagP a c)) ∧
  H c = some (.lst (ns.map V.int)) ∧ (∀ n ∈ ns, 0 ≤ n)
theorem Bag.up {H H' : Hp} {a : Addr} (e : Ext H H') : Bag H a → Bag H' a
  | ⟨c, ns, h1, h2, h3⟩ => ⟨c, ns, e _ _ h1, e _ _ h2, h3⟩

/-- a draw, the bag's ints told -/
def spTake0 : Sp := fun vs H Q _ => ∃ (a c : Addr) (b0 b1 b2 : Int) (ns : List Int) (m : Int),
  vs = [.ref a, .int m] ∧ H a = some (.lst (bagL b0 b1 b2 c)) ∧ H c = some (.lst (ns.map V.int)) ∧ (∀ n ∈ ns, 0 ≤ n) ∧
  BagI b0 b1 b2 ∧ 0 < m ∧ m < 1073741824 ∧
  ∀ (r x0 x1 x2 : Int), 0 ≤ r → r < m → BagI x0 x1 x2 → Q (.int r) (upd H a (.lst (bagL x0 x1 x2 c)))
/-- a draw, the bag set aside -/
def spTake : Sp := fun vs H Q _ => ∃ (a : Addr) (m : Int), vs = [.ref a, .int m] ∧ Bag H a ∧ 0 < m ∧ m < 1073741824 ∧
  ∀ r : Int, 0 ≤ r → r < m → Q (.int r) H

section
variable {P : Program} {w : World} {K : PySem.W.Frag} {mg : Str → Option Value} {base : Heap}

theorem hide {k : Nat} {f : Addr} {fd : FuncData} {ps : List Str} (F : FnOk P w K mg base CX0 k f fd ps spTake0) :
    FnOk P w K mg base CX0 k f fd ps spTake := by
  refine ⟨?_, ?_⟩
  · rintro vs H Q E ⟨a, m, rfl, ⟨c, ns, h1, h2, h3⟩, hm, hm2, q⟩
    have hca : c ≠ a := ne_of h2 h1 (fun z => nomatch z)
    exact F.len [.ref a, .int m] (upd H a (.lst (bagL 0 0 0 c))) (fun _ _ => True) E0
      ⟨a, c, 0, 0, 0, ns, m, rfl, upd_same, by rw [upd_ne hca]; exact h2, h3, ⟨by decide, by decide, by decide, by decide⟩, hm, hm2, fun _ _ _ _ _ _ _ => trivial⟩
  · rintro A outer s H args us vs Q E hr e0 hb rv ⟨a, m, rfl, ⟨c, ns, h1, h2, h3⟩, hm, hm2, q⟩
    have hca : c ≠ a := ne_of h2 h1 (fun z => nomatch z)
    obtain ⟨⟨b0, b1, b2, t0, t1, t2, n, eo, bi⟩, _, _⟩ := e0.hok a _ h1
    have mu : Mut (H a) := by
      rw [h1]
      trivial
    have nw : ObjOk P w (upd H a (.lst (bagL b0 b1 b2 c))) s.heap a (.lst (bagL b0 b1 b2 c)) :=
      ⟨by show 4 ≤ sizeLine; decide, [.int b0 t0, .int b1 t1, .int b2 t2, .ref c], n, .cons ⟨t0, rfl⟩ (.cons ⟨t1, rfl⟩ (.cons ⟨t2, rfl⟩ (.cons rfl .nil))), eo⟩
    have ok1 : HOk P w (upd H a (.lst (bagL b0 b1 b2 c))) s.heap := HOk.write e0.hok mu (Or.inl rfl) (fun _ _ _ z => z) ⟨_, eo⟩ nw
    have un1 : Un (frs outer) [] H (upd H a (.lst (bagL b0 b1 b2 c))) s.heap s.heap := Un.write mu (Or.inl rfl) (fun _ _ _ z => z) ⟨_, eo⟩
    have none1 : ∀ b, H b = none → upd H a (.lst (bagL b0 b1 b2 c)) b = none := fun b z => by
      rw [upd_ne (fun y => by rw [y, h1] at z; cases z)]
      exact z
    have e1 : Env0 P w K mg base A outer s (upd H a (.lst (bagL b0 b1 b2 c))) :=
      ⟨e0.frames, e0.mod, fun b o z => ⟨(e0.bs b o z).1, none1 b (e0.bs b o z).2⟩, e0.bsz, e0.funs, fun b z => none1 b (e0.frf b z), ok1, e0.bare⟩
    have run := F.run A outer s (upd H a (.lst (bagL b0 b1 b2 c))) args us [.ref a, .int m]
      (fun v H' => ∃ (r x0 x1 x2 : Int), v = .int r ∧ 0 ≤ r ∧ r < m ∧ BagI x0 x1 x2 ∧ H' = upd (upd H a (.lst (bagL b0 b1 b2 c))) a (.lst (bagL x0 x1 x2 c)))
      E hr e1 hb rv ⟨a, c, b0, b1, b2, ns, m, rfl, upd_same, by rw [upd_ne hca]; exact h2, h3, bi, hm, hm2, fun r x0 x1 x2 g1 g2 g3 => ⟨r, x0, x1, x2, rfl, g1, g2, g3, rfl⟩⟩
    refine codeAny_mono run ?_
    intro res s' h
    match res, h with
    | .error _, h => exact h.elim
    | .ok .next, h => exact h.elim
    | .ok .brk, h => exact h.elim
    | .ok .cont, h => exact h.elim
    | .ok (.ret u), h =>
      obtain ⟨v, H', os, bare, un, hok', rv', r, x0, x1, x2, rfl, g1, g2, g3, eH⟩ := h
      have hb' : H' a = some (.lst (bagL x0 x1 x2 c)) := by rw [eH, upd_same]
      have back : upd H' a (.ext (bagP a c)) = H := by
        rw [eH, upd_upd, upd_upd]
        funext b
        by_cases z : b = a
        · rw [z, upd_same, h1]
        · rw [upd_ne z]
      have mu' : Mut (H' a) := by
        rw [hb']
        trivial
      obtain ⟨_, its, n', r', eo'⟩ := hok' a _ hb'
      have shape : ∃ y0 y1 y2, its = [.int x0 y0, .int x1 y1, .int x2 y2, .ref c] := by
        cases r' with
        | cons q0 r' => cases r' with
          | cons q1 r' => cases r' with
            | cons q2 r' => cases r' with
              | cons q3 r' =>
                cases r'
                obtain ⟨y0, rfl⟩ := q0
                obtain ⟨y1, rfl⟩ := q1
                obtain ⟨y2, rfl⟩ := q2
                cases q3
                exact ⟨y0, y1, y2, rfl⟩
      obtain ⟨y0, y1, y2, rfl⟩ := shape
      have nw' : ObjOk P w (upd H' a (.ext (bagP a c))) s'.heap a (.ext (bagP a c)) := by
        refine ⟨⟨x0, x1, x2, y0, y1, y2, n', eo', g3⟩, ⟨_, eo'⟩, ?_⟩
        rintro g g' ⟨z0, z1, z2, w0, w1, w2, n2, e2, i2⟩ hk
        exact ⟨z0, z1, z2, w0, w1, w2, n2, hk _ e2, i2⟩
      have ok2 := HOk.write hok' mu' (Or.inl rfl) (fun _ _ _ z => z) ⟨_, eo'⟩ nw'
      have un2 : Un (frs outer) [] H' (upd H' a (.ext (bagP a c))) s'.heap s'.heap := Un.write mu' (Or.inl rfl) (fun _ _ _ z => z) ⟨_, eo'⟩
      rw [back] at ok2 un2
      exact ⟨.int r, H, os, bare, (un1.trans un).trans un2, ok2, rv', q r g1 g2⟩
end
end Ol

set_option Elab.async false
set_option linter.all false
set_option maxRecDepth 100000
set_option maxHeartbeats 4000000
namespace Ol
open PySem PySem.Spec PyProof.Rows L2

/-- what of H' is new over H -/
def nw (H H' : Hp) : Hp := fun b => match H b with
  | none => H' b
  | some _ => none
theorem nw_none {H H' : Hp} {b : Addr} (h : H b = none) : nw H H' b = H' b := by
  unfold nw
  rw [h]
theorem nw_some {H H' : Hp} {b : Addr} {o : HO} (h : H b = some o) : nw H H' b = none := by
  unfold nw
  rw [h]
theorem nw_ext {H H' : Hp} : Ext (nw H H') H' := fun b o e => by
  cases h : H b with
  | none => rwa [nw_none h] at e
  | some u =>
    rw [nw_some h] at e
    cases e
theorem nw_up {H H1 H2 : Hp} (e : Ext H1 H2) : Ext (nw H H1) (nw H H2) := fun b o q => by
  cases h : H b with
  | none =>
    rw [nw_none h] at q ⊢
    exact e b o q
  | some u =>
    rw [nw_some h] at q
    cases q
theorem nw_base {H0 H H' : Hp} (e : Ext H0 H) : Ext (nw H H') (nw H0 H') := fun b o q => by
  cases h : H b with
  | none => 
    rw [nw_none h] at q
    rw [nw_none (e.free h)]
    exact q
  | some u =>
    rw [nw_some h] at q
    cases q
theorem nw_dom {H0 H H' : Hp} (e : ∀ b, H b = none → H0 b = none) : Ext (nw H H') (nw H0 H') := fun b o q => by
  cases h : H b with
  | none =>
    rw [nw_none h] at q
    rw [nw_none (e b h)]
    exact q
  | some u =>
    rw [nw_some h] at q
    cases q
/-- from new over a later heap to new over an earlier one -/
theorem nw_mono {H0 H H1 H2 : Hp} (e : Ext H0 H) (f : Ext H1 H2) : Ext (nw H H1) (nw H0 H2) := (nw_base e).trans (nw_up f)
theorem nw_at {H H' : Hp} {p : Addr} {o : HO} (h : H p = none) : nw H (upd H' p o) p = some o := by rw [nw_none h, upd_same]
theorem nw_mut {H H' : Hp} {p : Addr} {o u : HO} (h : H p = some u) : Ext (nw H H') (nw H (upd H' p o)) := fun b z q => by
  cases g : H b with
  | none =>
    rw [nw_none g] at q ⊢
    rw [upd_ne (fun y => by rw [y, h] at g; cases g)]
    exact q
  | some _ =>
    rw [nw_some g] at q
    cases q

/-- a list comprehension without a test: its items are new things of which R holds -/
theorem lc_ext {J : It} {n : Nat} {G : Hp → Prop} {Y : Nat → Hp → V → Hp → Prop} (w : Walk J n G Y) {j : Nat} {te : TE} {σ : L2.St} {H1 : Hp} {D : Addr} {Qd : Hp → Prop}
    (R : Nat → V → Hp → Prop) (up : ∀ i v H H', Ext H H' → R i v H → R i v H') (hD : H1 D = none) (hn : n ≤ sizeLine) 
    (hG : ∀ H, Ext H1 H → G H)
    (hs : ∀ i x H H', i < n → Ext H1 H → Y i H x H' → Ext H H' ∧ ∀ Q : VK, (∀ y H4, Ext H' H4 → R i y (nw H' H4) → Q y H4) → te ((wipe σ [j]).set j (some x)) H' Q)
    (hd : ∀ H xs, Ext H1 H → H D = some (.lst xs) → xs.length = n → (∀ i y, xs[i]? = some y → R i y (nw H1 H)) → Qd H) :
    ∃ W : Nat → Nat → Hp → Prop, (∃ m, W 0 m (upd H1 D (.lst []))) ∧ ∀ i m H, W i m H →
      (J.stop i H ∧ Qd H) ∨ (J.go i H ∧ ∃ Nx : Hp → Prop, (∀ H', Nx H' → ∃ m', m' < m ∧ W (i + 1) m' H') ∧ ∀ x H', J.yld i H x H' → gName j x (wipe σ [j]) H' fun σ2 H2 => wipe σ2 [j] = wipe σ [j] ∧ tYes σ2 H2 fun b H3 =>
        if b = true then te σ2 H3 fun y H4 => ∃ acc, H4 D = some (.lst acc) ∧ acc.length < sizeLine ∧ Nx (upd H4 D (.lst (acc ++ [y]))) else Nx H3) := by
  let Hs : Hp := upd H1 D (.lst [])
  have hsD : Hs D = some (.lst []) := upd_same
  have e1 : Ext H1 Hs := Ext.new hD
  refine lc_it w (fun i H => ∃ xs, Ext H1 H ∧ H D = some (.lst xs) ∧ xs.length = i ∧ ∀ k y, xs[k]? = some y → R k y (nw Hs H))
    ⟨[], e1, hsD, rfl, fun k y z => by simp at z⟩ (by rintro i H _ ⟨xs, e, _⟩; exact hG H e) ?_ ?_
  · rintro i x H H' hi ⟨xs, e, hx, hl, hr⟩ y
    obtain ⟨e2, ht⟩ := hs i x H H' hi e y
    have hw : wipe ((wipe σ [j]).set j (some x)) [j] = wipe σ [j] := by
      show ((σ.set j none).set j (some x)).set j none = σ.set j none
      rw [List.set_set, List.set_set]
    refine ⟨hw, ?_⟩
    unfold tYes
    dsimp only
    rw [if_pos rfl]
    refine ht _ ?_
    intro v H4 e4 rv
    refine ⟨xs, e4 _ _ (e2 _ _ hx), by omega, xs ++ [v], ?_, upd_same, by rw [List.length_append, hl]; rfl, ?_⟩
    · exact Ext.mut ((e.trans e2).trans e4) hD
    · intro k u hk
      have toN : Ext (nw Hs H4) (nw Hs (upd H4 D (.lst (xs ++ [v])))) := nw_mut hsD
      by_cases hkl : k < xs.length
      · rw [List.getElem?_append_left hkl] at hk
        exact up _ _ _ _ ((nw_up (e2.trans e4)).trans toN) (hr k u hk)
      · have hk2 : k = xs.length := by
          have z := (List.getElem?_eq_some_iff.mp hk).1
          rw [List.length_append] at z
          simp at z
          omega
        subst hk2
        rw [List.getElem?_append_right (Nat.le_refl _), Nat.sub_self] at hk
        have hv : v = u := Option.some.inj hk
        subst hv
        rw [hl]
        have hsub : ∀ b, H' b = none → Hs b = none := by
          intro b q
          have q1 : H b = none := e2.free q
          have z : b ≠ D := fun z => by rw [z, hx] at q1; cases q1
          rw [show Hs b = H1 b from upd_ne z]
          exact e.free q1
        exact up _ _ _ _ ((nw_dom hsub).trans toN) rv
  · rintro H ⟨xs, e, hx, hl, hr⟩
    exact hd H xs e hx hl fun i y z => up _ _ _ _ (nw_base e1) (hr i y z)
end Ol

set_option Elab.async false
set_option linter.all false
set_option maxRecDepth 100000
set_option maxHeartbeats 4000000
namespace Ol
open PySem PySem.Spec PyProof.Rows L2

/-! ### comprehensions that leave the heap but for their list -/
theorem lc_det {J : It} {n : Nat} {G : Hp → Prop} {Y : Nat → Hp → V → Hp → Prop} (w : Walk J n G Y) {j : Nat} {tt : TT} {te : TE} {σ : L2.St} {H1 : Hp} {D : Addr} {Qd : Hp → Prop}
    (f : Nat → V) (p : Nat → Bool) (g : Nat → V) (hD : H1 D = none) (hn : n ≤ sizeLine)
    (hY : ∀ i H x H', i < n → Y i H x H' → H' = H ∧ x = f i) (hG : ∀ H, Ext H1 H → G H)
    (ht : ∀ i H, i < n → Ext H1 H → ∀ Q : Bool → Hp → Prop, Q (p i) H → tt ((wipe σ [j]).set j (some (f i))) H Q)
    (he : ∀ i H, i < n → p i = true → Ext H1 H → ∀ Q : VK, Q (g i) H → te ((wipe σ [j]).set j (some (f i))) H Q)
    (hd : Qd (upd H1 D (.lst (((List.range n).filter p).map g)))) :
    ∃ W : Nat → Nat → Hp → Prop, (∃ m, W 0 m (upd H1 D (.lst []))) ∧ ∀ i m H, W i m H →
      (J.stop i H ∧ Qd H) ∨ (J.go i H ∧ ∃ Nx : Hp → Prop, (∀ H', Nx H' → ∃ m', m' < m ∧ W (i + 1) m' H') ∧ ∀ x H', J.yld i H x H' → gName j x (wipe σ [j]) H' fun σ2 H2 => wipe σ2 [j] = wipe σ [j] ∧ tt σ2 H2 fun b H3 =>
        if b = true then te σ2 H3 fun y H4 => ∃ acc, H4 D = some (.lst acc) ∧ acc.length < sizeLine ∧ Nx (upd H4 D (.lst (acc ++ [y]))) else Nx H3) := by
  have ex : ∀ o, Ext H1 (upd H1 D o) := fun o => Ext.new hD
  refine lc_it w (fun i H => H = upd H1 D (.lst (((List.range i).filter p).map g))) rfl (by rintro i H _ rfl; exact hG _ (ex _)) ?_ (by rintro H rfl; exact hd)
  rintro i x H H' hi rfl y
  obtain ⟨rfl, rfl⟩ := hY i _ _ _ hi y
  have hw : wipe ((wipe σ [j]).set j (some (f i))) [j] = wipe σ [j] := by
    show ((σ.set j none).set j (some (f i))).set j none = σ.set j none
    rw [List.set_set, List.set_set]
  refine ⟨hw, ht i _ hi (ex _) _ ?_⟩
  cases hp : p i with
  | true =>
    rw [if_pos rfl]
    refine he i _ hi hp (ex _) _ ?_
    refine ⟨_, upd_same, ?_, ?_⟩
    · rw [List.length_map]
      have h1 := List.length_filter_le p (List.range i)
      rw [List.length_range] at h1
      omega
    · rw [upd_upd, List.range_succ, List.filter_append, List.map_append]
      rw [show [i].filter p = [i] by rw [List.filter_cons, if_pos hp, List.filter_nil]]
      rfl
  | false =>
    rw [if_neg Bool.false_ne_true, List.range_succ, List.filter_append]
    rw [show [i].filter p = [] by rw [List.filter_cons, if_neg (by rw [hp]; exact Bool.false_ne_true), List.filter_nil]]
    rw [List.append_nil]

/-- sign i of a text -/
def sg (x : Str) (i : Nat) : V := .str ⟨#[x.cps.toList.getD i 0]⟩
theorem its_sg {x : Str} : ∀ (i : Nat) (H : Hp) (v : V) (H' : Hp), i < x.cps.size → (H' = H ∧ ∃ c, x.cps[i]? = some c ∧ v = V.str ⟨#[c]⟩) → H' = H ∧ v = sg x i := by
  rintro i H v H' hi ⟨rfl, c, hc, rfl⟩
  refine ⟨rfl, ?_⟩
  unfold sg
  rw [List.getD_eq_getElem?_getD, Array.getElem?_toList, hc]
  rfl
theorem map_range_getD {α : Type} (h : Nat → α) : ∀ l : List Nat, (List.range l.length).map (fun i => h (l.getD i 0)) = l.map h
  | [] => rfl
  | a :: l => by
    rw [List.length_cons, List.range_succ_eq_map, List.map_cons, List.map_map, List.map_cons]
    congr 1
    exact map_range_getD h l
theorem filter_map_getD (p : Nat → Bool) : ∀ l : List Nat, ((List.range l.length).filter fun i => p (l.getD i 0)).map (fun i => l.getD i 0) = l.filter p
  | [] => rfl
  | a :: l => by
    rw [List.length_cons, List.range_succ_eq_map, List.filter_cons, List.filter_cons, List.filter_map]
    have ih := filter_map_getD p l
    by_cases h : p a = true
    · rw [if_pos h, if_pos (show p ((a :: l).getD 0 0) = true from h), List.map_cons, List.map_map]
      congr 1
    · rw [if_neg h, if_neg (show ¬ p ((a :: l).getD 0 0) = true from h), List.map_map]
      exact ih

/-! ### data, and what the package asks of any value -/
def tyD : PyData → String
  | .none => "NoneType"
  | .bool _ => "bool"
  | .int _ => "int"
  | .str _ => "str"
  | .list _ => "list"
  | .tuple _ => "tuple"
  | .dict _ => "dict"
theorem ty_of {K : PySem.W.Frag} {H : Hp} {v : V} {d : PyData} (h : Dq H v d) : TyX K H v (.type (tyD d)) := by
  cases h with
  | non => exact .base .non
  | bl b => exact .base (.bl b)
  | int i => exact .base (.int i)
  | str x => exact .base (.str x)
  | lst h _ => exact .base (.lst h)
  | tup h _ => exact .base (.tup h)
  | dct h _ => exact .base (.dK h)
def kI : PyData → Bool
  | .int _ => true
  | .bool _ => true
  | _ => false
def kB : PyData → Bool
  | .bool _ => true
  | _ => false
def kS : PyData → Bool
  | .str _ => true
  | _ => false
def kT : PyData → Bool
  | .tuple _ => true
  | _ => false
def kL : PyData → Bool
  | .list _ => true
  | _ => false
def kD : PyData → Bool
  | .dict _ => true
  | _ => false
section
variable {K : PySem.W.Frag}
theorem ki_int (d : PyData) : PySem.W.kitOne K (.type (tyD d)) (.type "int") = some (kI d) := by
  cases d <;> (simp only [tyD, kI]; exact kit_ty (by decide +kernel))
theorem ki_bool (d : PyData) : PySem.W.kitOne K (.type (tyD d)) (.type "bool") = some (kB d) := by
  cases d <;> (simp only [tyD, kB]; exact kit_ty (by decide +kernel))
theorem ki_str (d : PyData) : PySem.W.kitOne K (.type (tyD d)) (.type "str") = some (kS d) := by
  cases d <;> (simp only [tyD, kS]; exact kit_ty (by decide +kernel))
theorem ki_tuple (d : PyData) : PySem.W.kitOne K (.type (tyD d)) (.type "tuple") = some (kT d) := by
  cases d <;> (simp only [tyD, kT]; exact kit_ty (by decide +kernel))
theorem ki_list (d : PyData) : PySem.W.kitOne K (.type (tyD d)) (.type "list") = some (kL d) := by
  cases d <;> (simp only [tyD, kL]; exact kit_ty (by decide +kernel))
theorem ki_dict (d : PyData) : PySem.W.kitOne K (.type (tyD d)) (.type "dict") = some (kD d) := by
  cases d <;> (simp only [tyD, kD]; exact kit_ty (by decide +kernel))
end
def isIntD : PyData → Bool
  | .int _ => true
  | _ => false
theorem isIntD_eq (d : PyData) : isIntD d = (kI d && !kB d) := by cases d <;> rfl
def isNumD : PyData → Bool
  | .int i => decide (0 ≤ i)
  | _ => false
def abc : Str := "abcdefghijklmnopqrstuvwxyz"
def isNameS (x : Str) : Bool := decide (1 ≤ x.length ∧ x.length ≤ 8) && x.cps.toList.all fun c => decide (c ∈ abc.cps.toList)
def isNameD : PyData → Bool
  | .str x => isNameS x
  | _ => false
def isWordS (x : Str) : Bool := decide (x = "close" ∨ x = "ended" ∨ x = "send" ∨ x = "take")
def isWordD : PyData → Bool
  | .str x => isWordS x
  | _ => false
def isElseD : PyData → Bool
  | .str x => decide (x = "else")
  | _ => false
def isArmD : PyData → Bool
  | .tuple [a, b] => isElseD a && isNumD b
  | .tuple [a, b, c] => isWordD a && (isNameD b && isNumD c)
  | _ => false
theorem dq_int {H : Hp} {v : V} {d : PyData} (h : Dq H v d) (e : isIntD d = true) : ∃ i, v = .int i ∧ d = .int i := by
  cases h with
  | int i => exact ⟨i, rfl, rfl⟩
  | _ => cases e
theorem dq_str {H : Hp} {v : V} {d : PyData} (h : Dq H v d) (e : kS d = true) : ∃ x, v = .str x ∧ d = .str x := by
  cases h with
  | str x => exact ⟨x, rfl, rfl⟩
  | _ => cases e
theorem dq_tup {H : Hp} {v : V} {d : PyData} (h : Dq H v d) (e : kT d = true) : ∃ a xs ds, v = .ref a ∧ d = .tuple ds ∧ H a = some (.tup xs) ∧ DqAll H xs ds := by
  cases h with
  | tup h t => exact ⟨_, _, _, rfl, rfl, h, t⟩
  | _ => cases e

/-- a def that tells something of any data (of which C holds) -/
def spPred (C : PyData → Prop) (p : PyData → Bool) : Sp := fun vs H Q _ => ∃ v d, vs = [v] ∧ Dq H v d ∧ C d ∧
  ∀ H', Ext H H' → Q (.bl (p d)) H'
/-- a plain text of bounded length -/
def Tx (x : Str) : Prop := x.length ≤ 1000 ∧ ∀ c ∈ x.cps.toList, c < 128
def Ok1 (d : PyData) : Prop := ∀ x, d = .str x → Tx x
def OkT (d : PyData) : Prop := ∀ ds e, d = .tuple ds → e ∈ ds → Ok1 e
def Any (_ : PyData) : Prop := True

/-- the signs of a text asked one by one -/
theorem signs_all (x : Str) (p : Nat → Bool) : ((List.range x.cps.size).filter (fun _ => true)).map (fun i => V.bl (p (x.cps.toList.getD i 0))) = (x.cps.toList.map p).map V.bl := by
  rw [List.filter_eq_self.mpr (fun _ _ => rfl)]
  have h := map_range_getD (fun c => V.bl (p c)) x.cps.toList
  rw [Array.length_toList] at h
  rw [h, List.map_map]
  rfl
theorem signs_filter (x : Str) (p : Nat → Bool) : ((List.range x.cps.size).filter (fun i => p (x.cps.toList.getD i 0))).map (sg x) = (x.cps.toList.filter p).map fun c => V.str ⟨#[c]⟩ := by
  have h := filter_map_getD p x.cps.toList
  rw [Array.length_toList] at h
  rw [← h, List.map_map]
  rfl
theorem kS_not {d : PyData} (h : (!kS d) = true) : isNameD d = false := by
  cases d with
  | str x => cases h
  | _ => rfl
theorem kS_yes {d : PyData} (h : ¬ (!kS d) = true) : kS d = true := by
  cases e : kS d with
  | true => rfl
  | false => rw [e] at h; exact absurd rfl h
theorem isNameS_short {x : Str} (h : ¬ (1 ≤ x.length ∧ x.length ≤ 8)) : isNameS x = false := by
  unfold isNameS
  rw [decide_eq_false h, Bool.false_and]
theorem isNameS_long {x : Str} (h : 1 ≤ x.length ∧ x.length ≤ 8) : isNameS x = x.cps.toList.all fun c => decide (c ∈ abc.cps.toList) := by
  unfold isNameS
  rw [decide_eq_true h, Bool.true_and]
theorem all_id_map (p : Nat → Bool) : ∀ l : List Nat, (l.map p).all id = l.all p
  | [] => rfl
  | a :: l => by rw [List.map_cons, List.all_cons, List.all_cons, all_id_map p l]; rfl
theorem filter_empty_all (p : Nat → Bool) : ∀ l : List Nat, (l.filter fun c => !p c).isEmpty = l.all p
  | [] => rfl
  | a :: l => by
    rw [List.filter_cons, List.all_cons, ← filter_empty_all p l]
    cases p a <;> rfl
end Ol

set_option Elab.async false
set_option linter.all false
set_option maxRecDepth 100000
set_option maxHeartbeats 4000000
namespace Ol
open PySem PySem.Spec PyProof.Rows L2

/-- a def of the module, found by its name, and its promise -/
structure Ca (P : Program) (w : World) (K : PySem.W.Frag) (mg : Str → Option Value) (base : Heap)
    (k : Nat) (x : Str) (ps : List Str) (sp : Sp) : Prop where
  has : ∃ (f : Addr) (fd : FuncData), FnOk P w K mg base CX0 k f fd ps sp ∧ mg x = some (.ref f) ∧
    PySem.W.keepIn K (.ref f) = true ∧ Binds K fd ps []
/-- the same where no display is under way -/
structure Cg (P : Program) (w : World) (K : PySem.W.Frag) (mg : Str → Option Value) (base : Heap)
    (k : Nat) (x : Str) (ps : List Str) (sp : Sp) : Prop where
  has : ∃ (f : Addr) (fd : FuncData), FnG P w K mg base k f fd ps sp ∧ mg x = some (.ref f) ∧
    PySem.W.keepIn K (.ref f) = true ∧ Binds K fd ps []
section
variable {X : Cx} {k : Nat} {ps : List Str} {sp : Sp} {x : Str} {e : Expr} {es : List Expr} {t : TA} {p pos : Pos}
theorem pe_ca (C : Ca X.prog X.w X.K X.mg X.base k x ps sp) (hr : Room k X.A) (hg : Gl X x) (ha : PA X (e :: es) t)
    (hdb : (x == ("__debug__" : Str)) = false := by decide)
    (he : starEach (e :: es) X.env = (false, eval e X.env) :: starEach es X.env := by rfl)
    (hpl : (backTo pos (starEach es X.env)).any (·.1) = false := by rfl) :
    PE X (.Call (.Name x p) (e :: es) [] pos) (tCall sp [] E0 t) := by
  obtain ⟨f, fd, F, g, kp, b⟩ := C.has
  exact pe_call F hr hg g kp b .nil pass0 ha hdb he hpl
theorem pe_cg (C : Cg X.prog X.w X.K X.mg X.base k x ps sp) (hG : X.A.guards = some []) (hr : Room k X.A) (hg : Gl X x) (ha : PA X (e :: es) t)
    (hdb : (x == ("__debug__" : Str)) = false := by decide)
    (he : starEach (e :: es) X.env = (false, eval e X.env) :: starEach es X.env := by rfl)
    (hpl : (backTo pos (starEach es X.env)).any (·.1) = false := by rfl) :
    PE X (.Call (.Name x p) (e :: es) [] pos) (tCall sp [] E0 t) := by
  obtain ⟨f, fd, F, g, kp, b⟩ := C.has
  exact pe_callG F hG hr hg g kp b ha hdb he hpl
end

/-- == and != of data -/
def rEqQ : R2 := fun x y H Q => ∃ d e, Sys H ∧ Dq H x d ∧ Dq H y e ∧ SeqAt.shaped d = true ∧ SeqAt.shaped e = true ∧ Q (.bl (PyData.eqv d e)) H
def rNeQ : R2 := fun x y H Q => ∃ d e, Sys H ∧ Dq H x d ∧ Dq H y e ∧ SeqAt.shaped d = true ∧ SeqAt.shaped e = true ∧ Q (.bl (!PyData.eqv d e)) H
theorem op_eqQ {X : Cx} {k : Nat} (hr : Room k X.A) : OpR X (compareOp .Eq) rEqQ := by
  intro pins s σ H x y v u Q I rx ry h
  obtain ⟨d, e, S, hd, he, sd, se, q⟩ := h
  obtain ⟨as, r1, _⟩ := Dq.reads I S hd rx
  obtain ⟨bs, r2, _⟩ := Dq.reads I S he ry
  exact SeqAt.compareEq_shaped r1 r2 sd se hr.units ⟨.bl _, H, I, rfl, q⟩
theorem op_neQ {X : Cx} {k : Nat} (hr : Room k X.A) : OpR X (compareOp .NotEq) rNeQ := by
  intro pins s σ H x y v u Q I rx ry h
  obtain ⟨d, e, S, hd, he, sd, se, q⟩ := h
  obtain ⟨as, r1, _⟩ := Dq.reads I S hd rx
  obtain ⟨bs, r2, _⟩ := Dq.reads I S he ry
  exact SeqAt.compareNe_shaped r1 r2 sd se hr.units ⟨.bl _, H, I, rfl, q⟩

/-- data that may be shown -/
structure Fits (d : PyData) : Prop where
  sh : d.showable = true
  dep : d.depth ≤ 40
  len : d.shown.length ≤ sizeLine

/-- f(x, y) of two equal data gives True -/
def spAlike : Sp := fun vs H Q _ => ∃ v u d, vs = [v, u] ∧ Sys H ∧ Dq H v d ∧ Dq H u d ∧ SeqAt.shaped d = true ∧ Fits d ∧
  ∀ H', Ext H H' → Q (.bl true) H'
end Ol

set_option Elab.async false
set_option linter.all false
set_option maxRecDepth 100000
set_option maxHeartbeats 4000000
namespace Ol
open PySem PySem.Spec PyProof.Rows L2

/-- a new bag of a script's cells -/
def spBag0 (K : PySem.W.Frag) : Sp := fun vs H Q _ => ∃ (a : Addr) (ns : List Int), vs = [.ref a] ∧ SqL K H a (ns.map V.int) ∧ ns.length ≤ 1000 ∧
  ∀ (p c : Addr) (cs : List Int) (H' : Hp), H p = none → Ext H H' → H' p = some (.lst (bagL 0 1234567891 0 c)) → H' c = some (.lst (cs.map V.int)) → (∀ n ∈ cs, 0 ≤ n) → c ≠ p → Q (.ref p) H'
def spBag (K : PySem.W.Frag) : Sp := fun vs H Q _ => ∃ (a : Addr) (ns : List Int), vs = [.ref a] ∧ SqL K H a (ns.map V.int) ∧ ns.length ≤ 1000 ∧
  ∀ (p : Addr) (H' : Hp), Ext H H' → Bag H' p → Q (.ref p) H'
section
variable {P : Program} {w : World} {K : PySem.W.Frag} {mg : Str → Option Value} {base : Heap}
theorem hideBag {k : Nat} {f : Addr} {fd : FuncData} {ps : List Str} (F : FnOk P w K mg base CX0 k f fd ps (spBag0 K)) :
    FnOk P w K mg base CX0 k f fd ps (spBag K) := by
  refine ⟨?_, ?_⟩
  · rintro vs H Q E ⟨a, ns, rfl, h1, h2, q⟩
    exact F.len [.ref a] H (fun _ _ => True) E0 ⟨a, ns, rfl, h1, h2, fun _ _ _ _ _ _ _ _ _ _ => trivial⟩
  · rintro A outer s H args us vs Q E hr e0 hb rv ⟨a, ns, rfl, h1, h2, q⟩
    have run := F.run A outer s H args us [.ref a]
      (fun v H' => ∃ (p c : Addr) (cs : List Int), v = .ref p ∧ H p = none ∧ Ext H H' ∧ H' p = some (.lst (bagL 0 1234567891 0 c)) ∧ H' c = some (.lst (cs.map V.int)) ∧ (∀ n ∈ cs, 0 ≤ n) ∧ c ≠ p)
      E hr e0 hb rv ⟨a, ns, rfl, h1, h2, fun p c cs H' g1 g2 g3 g4 g5 g6 => ⟨p, c, cs, rfl, g1, g2, g3, g4, g5, g6⟩⟩
    refine codeAny_mono run ?_
    intro res s' h
    match res, h with
    | .error _, h => exact h.elim
    | .ok .next, h => exact h.elim
    | .ok .brk, h => exact h.elim
    | .ok .cont, h => exact h.elim
    | .ok (.ret u), h =>
      obtain ⟨v, H', os, bare, un, hok', rv', p, c, cs, rfl, g1, g2, g3, g4, g5, g6⟩ := h
      have mu' : Mut (H' p) := by
        rw [g3]
        trivial
      obtain ⟨_, its, n', r', eo'⟩ := hok' p _ g3
      have shape : ∃ y0 y1 y2, its = [.int 0 y0, .int 1234567891 y1, .int 0 y2, .ref c] := by
        cases r' with
        | cons q0 r' => cases r' with
          | cons q1 r' => cases r' with
            | cons q2 r' => cases r' with
              | cons q3 r' =>
                cases r'
                obtain ⟨y0, rfl⟩ := q0
                obtain ⟨y1, rfl⟩ := q1
                obtain ⟨y2, rfl⟩ := q2
                cases q3
                exact ⟨y0, y1, y2, rfl⟩
      obtain ⟨y0, y1, y2, rfl⟩ := shape
      have nw' : ObjOk P w (upd H' p (.ext (bagP p c))) s'.heap p (.ext (bagP p c)) := by
        refine ⟨⟨0, 1234567891, 0, y0, y1, y2, n', eo', by decide, by decide, by decide, by decide⟩, ⟨_, eo'⟩, ?_⟩
        rintro g g' ⟨z0, z1, z2, w0, w1, w2, n2, e2, i2⟩ hk
        exact ⟨z0, z1, z2, w0, w1, w2, n2, hk _ e2, i2⟩
      have ok2 := HOk.write hok' mu' (Or.inl rfl) (fun _ _ _ z => z) ⟨_, eo'⟩ nw'
      have un2 : Un (frs outer) [] H' (upd H' p (.ext (bagP p c))) s'.heap s'.heap := Un.write mu' (Or.inl rfl) (fun _ _ _ z => z) ⟨_, eo'⟩
      refine ⟨.ref p, upd H' p (.ext (bagP p c)), os, bare, un.trans un2, ok2, rv', q p _ (Ext.mut g2 g1) ⟨c, cs, upd_same, ?_, g5⟩⟩
      rw [upd_ne g6]
      exact g4
end

theorem map_range_getI (h : Int → V) : ∀ l : List Int, (List.range l.length).map (fun i => h (l.getD i 0)) = l.map h
  | [] => rfl
  | a :: l => by
    rw [List.length_cons, List.range_succ_eq_map, List.map_cons, List.map_map, List.map_cons]
    congr 1
    exact map_range_getI h l
theorem cut_ints (ns : List Int) (lo hi : Option Int) : ∃ cs : List Int, cutV (ns.map V.int) lo hi = cs.map V.int ∧ cs.length ≤ ns.length := by
  unfold cutV
  refine ⟨(ns.drop (HT.sIx (ns.map V.int).length 0 lo)).take (HT.sIx (ns.map V.int).length (ns.map V.int).length hi - HT.sIx (ns.map V.int).length 0 lo), ?_, ?_⟩
  · rw [List.map_take, List.map_drop]
  · rw [List.length_take, List.length_drop]
    omega
end Ol

set_option Elab.async false
set_option linter.all false
set_option maxRecDepth 100000
set_option maxHeartbeats 4000000
namespace Ol
open PySem PySem.Spec PyProof.Rows L2
open TL (tl joinL join_eq tl_join)

theorem tlen (x : Str) : x.length = (tl x).length := by
  show x.cps.size = x.cps.toList.length
  rw [Array.length_toList]
theorem tl_inj {x y : Str} (h : tl x = tl y) : x = y := by
  obtain ⟨⟨a⟩⟩ := x
  obtain ⟨⟨b⟩⟩ := y
  have h' : a = b := h
  rw [h']
theorem tl_app (x y : Str) : tl (x ++ y) = tl x ++ tl y := by
  show (x.cps ++ y.cps).toList = _
  rw [Array.toList_append]
theorem joinL_nil : ∀ ls : List (List Nat), joinL [] ls = ls.flatten
  | [] => rfl
  | [p] => by show p = [p].flatten; simp
  | p :: q :: r => by
    show p ++ ([] ++ joinL [] (q :: r)) = _
    rw [joinL_nil (q :: r), List.nil_append]
    rfl
def one (c : Nat) : Str := ⟨#[c]⟩
theorem join_signs (cs : List Nat) : tl (Txt.join "" (cs.map one)) = cs := by
  rw [join_eq, tl_join]
  show joinL [] _ = cs
  rw [joinL_nil, List.map_map]
  induction cs with
  | nil => rfl
  | cons a l ih =>
    rw [List.map_cons, List.flatten_cons, ih]
    rfl
theorem ones_len : ∀ cs : List Nat, ((cs.map one).map (·.length)).sum = cs.length
  | [] => rfl
  | a :: l => by
    rw [List.map_cons, List.map_cons, List.sum_cons, ones_len l, List.length_cons]
    show 1 + l.length = l.length + 1
    omega
theorem cut_drop (xs : List V) (t : Nat) : cutV xs (some (t : Int)) none = xs.drop t := by
  unfold cutV
  rw [HT.sIx_none, HT.sIx_nat]
  by_cases h : t ≤ xs.length
  · rw [Nat.min_eq_left h, List.take_of_length_le]
    rw [List.length_drop]
    exact Nat.le_refl _
  · rw [Nat.min_eq_right (by omega), Nat.sub_self, List.take_zero, List.drop_of_length_le (by omega)]
theorem cut_take (xs : List V) (t : Nat) : cutV xs none (some (t : Int)) = xs.take t := by
  unfold cutV
  rw [HT.sIx_none, HT.sIx_nat, Nat.sub_zero, List.drop_zero]
  by_cases h : t ≤ xs.length
  · rw [Nat.min_eq_left h]
  · rw [Nat.min_eq_right (by omega), List.take_of_length_le (Nat.le_refl _), List.take_of_length_le (by omega)]
theorem cutS_drop (z : Str) (t : Nat) : tl (cutS z (some (t : Int)) none) = (tl z).drop t := by
  unfold cutS
  rw [HT.sIx_none, HT.sIx_nat]
  have hl := tlen z
  show List.take _ _ = _
  by_cases h : t ≤ z.length
  · rw [Nat.min_eq_left h, List.take_of_length_le]
    rw [List.length_drop, hl]
    exact Nat.le_refl _
  · rw [Nat.min_eq_right (by omega), Nat.sub_self, List.take_zero, List.drop_of_length_le (by omega)]
theorem cutS_take (z : Str) (t : Nat) : tl (cutS z none (some (t : Int))) = (tl z).take t := by
  unfold cutS
  rw [HT.sIx_none, HT.sIx_nat, Nat.sub_zero]
  have hl := tlen z
  show List.take _ (List.drop 0 _) = _
  rw [List.drop_zero]
  by_cases h : t ≤ z.length
  · rw [Nat.min_eq_left h]
  · rw [Nat.min_eq_right (by omega), List.take_of_length_le (by rw [hl]; exact Nat.le_refl _), List.take_of_length_le (by omega)]

def abcL : List Nat := tl abc
theorem abc_at : ∀ r, r < 26 → abcL[r]? = some (97 + r) := by decide +kernel
theorem abc_mem {r : Nat} (h : r < 26) : 97 + r ∈ abcL := List.mem_of_getElem? (abc_at r h)
theorem abc_low : ∀ c ∈ abcL, c < 128 := by decide +kernel
theorem name_of {x : Str} (h1 : 1 ≤ (tl x).length) (h2 : (tl x).length ≤ 8) (h3 : ∀ c ∈ tl x, c ∈ abcL) : isNameS x = true := by
  rw [isNameS_long (by rw [tlen]; exact ⟨h1, h2⟩), List.all_eq_true]
  exact fun c hc => decide_eq_true (h3 c hc)
theorem name_tl {x : Str} (h : isNameS x = true) : 1 ≤ (tl x).length ∧ (tl x).length ≤ 8 ∧ ∀ c ∈ tl x, c ∈ abcL := by
  unfold isNameS at h
  rw [Bool.and_eq_true] at h
  have h1 := of_decide_eq_true h.1
  rw [tlen] at h1
  exact ⟨h1.1, h1.2, fun c hc => of_decide_eq_true (List.all_eq_true.mp h.2 c hc)⟩
theorem name_tx {x : Str} (h : isNameS x = true) : Tx x := by
  obtain ⟨_, h2, h3⟩ := name_tl h
  exact ⟨by rw [tlen]; omega, fun c hc => abc_low c (h3 c hc)⟩

/-- new names, all different -/
structure Names (ys : List Str) (m : Nat) : Prop where
  len : ys.length = m
  nd : ys.Nodup
  ok : ∀ y ∈ ys, isNameS y = true

def wordsA : Str := "send take ended close else first any step quit server back again where log a b ab ba z"
def wordsB : Str := " stuck seat sticks lane"
def wordL : List Str := ["send", "take", "ended", "close", "else", "first", "any", "step", "quit", "server", "back", "again", "where", "log", "a", "b", "ab", "ba", "z", "stuck", "seat", "sticks", "lane"]
theorem split_words : Txt.split (wordsA ++ wordsB) " " = wordL := by decide +kernel
theorem wordL_ok : ∀ y ∈ wordL, isNameS y = true := by decide +kernel
theorem wordL_rot : ∀ t, t < 20 → (wordL.drop t ++ wordL.take t).Nodup := by decide +kernel
theorem names0 (t m : Nat) (ht : t < 20) (hm : m ≤ 20) : Names ((wordL.drop t ++ wordL.take t).take m) m := by
  refine ⟨?_, (wordL_rot t ht).sublist (List.take_sublist _ _), fun y hy => ?_⟩
  · rw [List.length_take, List.length_append, List.length_drop, List.length_take]
    have e : wordL.length = 23 := rfl
    omega
  · have h := List.mem_of_mem_take hy
    rcases List.mem_append.mp h with h | h
    · exact wordL_ok y (List.mem_of_mem_drop h)
    · exact wordL_ok y (List.mem_of_mem_take h)
def let1 (t k : Nat) : Nat := 97 + (t + 3 * k) % 26
theorem names1 (t m : Nat) (hm : m ≤ 8) : Names ((List.range m).map fun k => one (let1 t k)) m := by
  refine ⟨by rw [List.length_map, List.length_range], ?_, ?_⟩
  · rw [List.nodup_iff_pairwise_ne, List.pairwise_map]
    refine (List.pairwise_lt_range (n := m)).imp_of_mem ?_
    intro a b ha hb hab e
    have ha := List.mem_range.mp ha
    have hb := List.mem_range.mp hb
    have e1 : [let1 t a] = [let1 t b] := congrArg tl e
    have e2 : let1 t a = let1 t b := by injection e1
    unfold let1 at e2
    omega
  · intro y hy
    obtain ⟨k, _, rfl⟩ := List.mem_map.mp hy
    refine name_of (Nat.le_refl 1) (by show 1 ≤ 8; decide) fun c hc => ?_
    have hc' : c ∈ [let1 t k] := hc
    rw [List.mem_singleton] at hc'
    rw [hc']
    exact abc_mem (Nat.mod_lt _ (by decide))
/-- the names of the third style, as texts with these signs -/
theorem names2 (cs : List Nat) (at_ t m : Nat) (f : Nat → Str) (hc1 : 1 ≤ cs.length) (hc7 : cs.length ≤ 7) (hc : ∀ c ∈ cs, c ∈ abcL) (hm : m ≤ 8) (ha : at_ ≤ cs.length)
    (hf : ∀ k, k < m → tl (f k) = cs.take at_ ++ [let1 t k] ++ cs.drop at_) : Names ((List.range m).map f) m := by
  refine ⟨by rw [List.length_map, List.length_range], ?_, ?_⟩
  · rw [List.nodup_iff_pairwise_ne, List.pairwise_map]
    refine (List.pairwise_lt_range (n := m)).imp_of_mem ?_
    intro a b ha hb hab e
    have ha := List.mem_range.mp ha
    have hb := List.mem_range.mp hb
    have e1 := congrArg tl e
    rw [hf a ha, hf b hb, List.append_assoc, List.append_assoc] at e1
    have e2 := List.append_cancel_left e1
    have e3 : let1 t a = let1 t b := by
      simp only [List.cons_append, List.nil_append, List.cons.injEq] at e2
      exact e2.1
    unfold let1 at e3
    omega
  · intro y hy
    obtain ⟨k, hk, rfl⟩ := List.mem_map.mp hy
    have hk := List.mem_range.mp hk
    refine name_of ?_ ?_ fun c hc' => ?_
    · rw [hf k hk]
      simp
      omega
    · rw [hf k hk]
      simp
      omega
    · rw [hf k hk] at hc'
      simp only [List.mem_append, List.mem_singleton] at hc'
      rcases hc' with (h | h) | h
      · exact hc c (List.mem_of_mem_take h)
      · rw [h]
        exact abc_mem (Nat.mod_lt _ (by decide))
      · exact hc c (List.mem_of_mem_drop h)
/-- texts of one sign each -/
theorem ones_of {n : Nat} {xs : List V} (h : xs.length = n) (hr : ∀ (i : Nat) (y : V), xs[i]? = some y → ∃ c, c ∈ abcL ∧ y = .str (one c)) :
    ∃ cs : List Nat, xs = (cs.map one).map V.str ∧ cs.length = n ∧ ∀ c ∈ cs, c ∈ abcL := by
  induction xs generalizing n with
  | nil => exact ⟨[], rfl, h, fun _ z => by cases z⟩
  | cons v xs ih =>
    obtain ⟨cs, e, hl, hc⟩ := ih (n := xs.length) rfl fun i y z => hr (i + 1) y (by rw [List.getElem?_cons_succ]; exact z)
    obtain ⟨c, hm, rfl⟩ := hr 0 v rfl
    refine ⟨c :: cs, by rw [e]; rfl, by rw [← h, List.length_cons, List.length_cons, hl], fun x hx => ?_⟩
    rcases List.mem_cons.mp hx with z | z
    · rw [z]
      exact hm
    · exact hc x z
/-- names drawn from a bag -/
def spNames : Sp := fun vs H Q _ => ∃ (a : Addr) (m : Int), vs = [.ref a, .int m] ∧ Bag H a ∧ 1 ≤ m ∧ m ≤ 8 ∧
  ∀ (p : Addr) (ys : List Str) (H' : Hp), Ext H H' → H p = none → H' p = some (.lst (ys.map V.str)) → Names ys m.toNat → Q (.ref p) H'
end Ol

set_option Elab.async false
set_option linter.all false
set_option maxRecDepth 100000
set_option maxHeartbeats 4000000
namespace Ol
open PySem PySem.Spec PyProof.Rows L2
open TL (tl)

/-! ### s * n, n small -/
def repS (z : Str) (n : Nat) : Str := if n = 0 then Str.empty else if n = 1 then z else ⟨(List.replicate n z.cps).foldl (· ++ ·) #[]⟩
def rRepS : R2 := fun x y H Q => ∃ (z : Str) (n : Nat), x = .str z ∧ y = .int (n : Int) ∧ n ≤ 1000 ∧ z.length = 1 ∧ (repS z n).length ≤ sizeLine ∧ Q (.str (repS z n)) H
theorem op_repS {X : Cx} : OpR X (binaryOp .Mult) rRepS := by
  intro pins s σ H x y v u Q I rx ry h
  obtain ⟨z, n, rfl, rfl, hn, hz, hl, q⟩ := h
  obtain ⟨t, rfl⟩ := rx
  obtain ⟨t', rfl⟩ := ry
  have tl0 : ¬ (n : Int) < 1 → ((n : Int) == 1 || z.length == 0) = false → Builtin.Str.tooLong (z.length * (n : Int).toNat) = false := by
    intro _ _
    unfold Builtin.Str.tooLong
    exact decide_eq_false (by rw [hz]; show ¬ _ > 2 ^ 24; omega)
  refine PySem.P.mul_str ?_ ?_ tl0 ?_
  · rw [decide_eq_false (by omega), decide_eq_false (by omega)]
    rfl
  · intro h1 h2 h3
    have h4 : 0 < (n : Int) := by omega
    have h5 : ((2 : Int) ^ 63 - 1) / n ≥ 1 := Int.le_ediv_of_mul_le h4 (by omega)
    rw [hz] at h3
    omega
  · by_cases h0 : n = 0
    · subst h0
      exact ⟨by decide, .str Str.empty, H, I.tok _, ⟨_, rfl⟩, q⟩
    · rw [if_neg (by omega)]
      by_cases h1 : n = 1
      · subst h1
        rw [if_pos (show (((1 : Nat) : Int) == 1 || z.length == 0) = true from rfl)]
        exact ⟨.str z, H, I, ⟨_, rfl⟩, q⟩
      · have hf : ((n : Int) == 1 || z.length == 0) = false := by
          rw [hz, Bool.or_eq_false_iff]
          exact ⟨beq_eq_false_iff_ne.mpr (by omega), rfl⟩
        rw [hf, if_neg Bool.false_ne_true]
        have e : repS z n = ⟨(List.replicate (n : Int).toNat z.cps).foldl (· ++ ·) #[]⟩ := by
          unfold repS
          rw [if_neg h0, if_neg h1]
          rfl
        rw [e] at q hl
        exact ⟨hl, .str _, H, I.tok _, ⟨_, rfl⟩, q⟩

def far (n : Nat) : Str := "1" ++ repS "0" n
theorem far_int : ∀ n, n < 40 → PySem.intText? (far n) = some (10 ^ n) := by decide +kernel
theorem far_len : ∀ n, n < 40 → (far n).length ≤ 640 ∧ (repS "0" n).length ≤ 1000 := by decide +kernel
theorem pow_fit : ∀ n, n < 40 → ((10 : Int) ^ n).natAbs.log2 < 1920 ∧ (-(10 : Int) ^ n).natAbs.log2 < 1920 := by decide +kernel
theorem pow_len : ∀ n, n < 40 → ((toString ((10 : Int) ^ n) : String) : Str).length ≤ 200 ∧ ((toString (-(10 : Int) ^ n) : String) : Str).length ≤ 200 := by decide +kernel

/-! ### sizes of what is shown -/
theorem pile_le {B : Nat} : ∀ ts : List Str, (∀ t ∈ ts, t.length ≤ B) → piled ts ≤ ts.length * (B + 2)
  | [], _ => Nat.zero_le _
  | t :: ts, h => by
    rw [piled_cons, List.length_cons, Nat.succ_mul]
    have h1 := h t List.mem_cons_self
    have h2 := pile_le ts fun x hx => h x (List.mem_cons_of_mem _ hx)
    omega
theorem join_le (ts : List Str) : (Str.join ", " ts).length ≤ piled ts := by
  by_cases h : ts = []
  · subst h
    exact Nat.zero_le _
  · have := join_length_add ts h
    omega
theorem listText_le (ts : List Str) : (listText ts).length ≤ piled ts + 2 := by
  have e1 : ((("[" : String) : Str)).length = 1 := rfl
  have e2 : ((("]" : String) : Str)).length = 1 := rfl
  rw [listText_eq_join, strLen_append, strLen_append, e1, e2]
  have := join_le ts
  omega
theorem tupleText_le (ts : List Str) : (tupleText ts).length ≤ piled ts + 3 := by
  have e3 : (((if ts.length == 1 then ",)" else ")" : String) : Str)).length ≤ 2 := by split <;> decide +kernel
  have e1 : ((("(" : String) : Str)).length = 1 := rfl
  unfold tupleText
  rw [strLen_append, strLen_append, e1]
  have := join_le ts
  omega
theorem dictText_le (ts : List Str) : (dictText ts).length ≤ piled ts + 2 := by
  have e1 : ((("{" : String) : Str)).length = 1 := rfl
  have e2 : ((("}" : String) : Str)).length = 1 := rfl
  unfold dictText
  rw [strLen_append, strLen_append, e1, e2]
  have := join_le ts
  omega

/-! ### data as a law draws it: how deep, how long when shown -/
structure Gd (n : Nat) (d : PyData) : Prop where
  sh : d.showable = true
  dep : d.depth ≤ n + 1
  len : d.shown.length ≤ 200 * 8 ^ n
  ok1 : Ok1 d
  okt : OkT d
theorem Gd.up {n m : Nat} {d : PyData} (g : Gd n d) (h : n ≤ m) : Gd m d :=
  ⟨g.sh, Nat.le_trans g.dep (by omega), Nat.le_trans g.len (Nat.mul_le_mul_left _ (Nat.pow_le_pow_right (by decide) h)), g.ok1, g.okt⟩
theorem Gd.fits {n : Nat} {d : PyData} (g : Gd n d) (h : n ≤ 5) : Fits d :=
  ⟨g.sh, Nat.le_trans g.dep (by omega), Nat.le_trans (g.up h).len (by decide)⟩
theorem nope1 {d : PyData} (h : kS d = false) : Ok1 d := fun x e => by rw [e] at h; cases h
theorem nopeT {d : PyData} (h : kT d = false) : OkT d := fun ds e z _ => by rw [z] at h; cases h
theorem gd_non : Gd 0 .none := ⟨by simp [PyData.showable], by simp [PyData.depth], by decide +kernel, nope1 rfl, nopeT rfl⟩
theorem gd_bl (b : Bool) : Gd 0 (.bool b) := ⟨by simp [PyData.showable], by simp [PyData.depth], by cases b <;> decide +kernel, nope1 rfl, nopeT rfl⟩
theorem gd_int (i : Int) (h1 : i.natAbs.log2 < 1920) (h2 : ((toString i : String) : Str).length ≤ 200) : Gd 0 (.int i) :=
  ⟨by simpa [PyData.showable] using h1, by simp [PyData.depth], by simpa [PyData.shown] using h2, nope1 rfl, nopeT rfl⟩
theorem gd_str (x : Str) (h1 : x.length ≤ 19) (h2 : ∀ c ∈ tl x, c < 128) : Gd 0 (.str x) := by
  refine ⟨by simp [PyData.showable], by simp [PyData.depth], ?_, fun y e => ?_, nopeT rfl⟩
  · simp only [PyData.shown]
    have h := StrLaws.reprText_len x fun c hc => Nat.lt_of_lt_of_le (h2 c hc) (by decide)
    omega
  · cases e
    exact ⟨by omega, h2⟩
theorem pow8 (n : Nat) : 200 ≤ 200 * 8 ^ n := Nat.le_mul_of_pos_right _ (Nat.pow_pos (by decide))
theorem all_sh {n : Nat} : ∀ {ds : List PyData}, (∀ d ∈ ds, Gd n d) → PyData.showableAll ds = true ∧ PyData.depthAll ds ≤ n + 1 ∧ (∀ t ∈ PyData.shownAll ds, t.length ≤ 200 * 8 ^ n) ∧ (PyData.shownAll ds).length = ds.length
  | [], _ => ⟨by simp [PyData.showableAll], by simp [PyData.depthAll], fun t h => by simp [PyData.shownAll] at h, by simp [PyData.shownAll]⟩
  | d :: ds, h => by
    have g := h d List.mem_cons_self
    obtain ⟨h1, h2, h3, h4⟩ := all_sh fun x hx => h x (List.mem_cons_of_mem _ hx)
    refine ⟨by simp [PyData.showableAll, g.sh, h1], ?_, fun t ht => ?_, by simp [PyData.shownAll, h4]⟩
    · simp only [PyData.depthAll]
      exact Nat.max_le.mpr ⟨g.dep, h2⟩
    · simp only [PyData.shownAll] at ht
      rcases List.mem_cons.mp ht with e | e
      · rw [e]
        exact g.len
      · exact h3 t e
theorem gd_size {n : Nat} {ds : List PyData} (h : ∀ d ∈ ds, Gd n d) (h5 : ds.length ≤ 5) : piled (PyData.shownAll ds) + 3 ≤ 200 * 8 ^ (n + 1) := by
  obtain ⟨_, _, h3, h4⟩ := all_sh h
  have z := pile_le _ h3
  have p := pow8 n
  rw [h4] at z
  have z2 : ds.length * (200 * 8 ^ n + 2) ≤ 5 * (200 * 8 ^ n + 2) := Nat.mul_le_mul_right _ h5
  rw [Nat.pow_succ]
  omega
theorem gd_list {n : Nat} {ds : List PyData} (h : ∀ d ∈ ds, Gd n d) (h5 : ds.length ≤ 5) : Gd (n + 1) (.list ds) := by
  obtain ⟨h1, h2, _, _⟩ := all_sh h
  have z := gd_size h h5
  refine ⟨by simpa [PyData.showable] using h1, by simp only [PyData.depth]; omega, ?_, nope1 rfl, nopeT rfl⟩
  simp only [PyData.shown]
  have := listText_le (PyData.shownAll ds)
  omega
theorem gd_tuple {n : Nat} {ds : List PyData} (h : ∀ d ∈ ds, Gd n d) (h5 : ds.length ≤ 5) : Gd (n + 1) (.tuple ds) := by
  obtain ⟨h1, h2, _, _⟩ := all_sh h
  have z := gd_size h h5
  refine ⟨by simpa [PyData.showable] using h1, by simp only [PyData.depth]; omega, ?_, nope1 rfl, fun es e he hm => ?_⟩
  · simp only [PyData.shown]
    have := tupleText_le (PyData.shownAll ds)
    omega
  · cases he
    exact (h e hm).ok1
theorem gd_nil : Gd 0 (.list []) := ⟨by simp [PyData.showable, PyData.showableAll], by simp [PyData.depth, PyData.depthAll], by decide +kernel, nope1 rfl, nopeT rfl⟩
theorem gd_tnil : Gd 0 (.tuple []) := ⟨by simp [PyData.showable, PyData.showableAll], by simp [PyData.depth, PyData.depthAll], by decide +kernel, nope1 rfl, fun ds e he hm => by cases he; cases hm⟩
theorem gd_dnil : Gd 0 (.dict []) := ⟨by simp [PyData.showable, PyData.showableKv], by simp [PyData.depth, PyData.depthKv], by decide +kernel, nope1 rfl, nopeT rfl⟩
theorem gd_dict1 {n : Nat} {d : PyData} (g : Gd n d) : Gd (n + 1) (.dict [(.str "a", d)]) := by
  refine ⟨by simp [PyData.showable, PyData.showableKv, g.sh], ?_, ?_, nope1 rfl, nopeT rfl⟩
  · simp only [PyData.depth, PyData.depthKv]
    have := g.dep
    omega
  · simp only [PyData.shown, PyData.shownKv]
    have h1 := dictText_le [reprText "a" ++ ": " ++ d.shown]
    have h2 : piled [reprText "a" ++ ": " ++ d.shown] = (reprText "a" ++ ": " ++ d.shown).length + 2 := by simp [piled]
    have h3 : (reprText "a" ++ ": " ++ d.shown).length = 5 + d.shown.length := by
      rw [strLen_append, strLen_append]
      have e : (reprText "a").length = 3 := by decide +kernel
      have e2 : ((": " : Str)).length = 2 := rfl
      omega
    have h4 := g.len
    have p := pow8 n
    rw [Nat.pow_succ]
    omega
/-- a value that stands for such data -/
def Th (n : Nat) (v : V) (H : Hp) : Prop := ∃ d, Dq H v d ∧ Gd n d
theorem Th.up {n m : Nat} {v : V} {H H' : Hp} (h : Th n v H) (e : Ext H H') (hn : n ≤ m) : Th m v H' := by
  obtain ⟨d, h1, h2⟩ := h
  exact ⟨d, h1.up e, h2.up hn⟩
/-- a list of such values -/
theorem th_all {n : Nat} {H : Hp} : ∀ {xs : List V}, (∀ x ∈ xs, Th n x H) → ∃ ds, DqAll H xs ds ∧ (∀ d ∈ ds, Gd n d) ∧ ds.length = xs.length
  | [], _ => ⟨[], .nil, (fun _ h => nomatch h), rfl⟩
  | x :: xs, h => by
    obtain ⟨d, h1, h2⟩ := h x List.mem_cons_self
    obtain ⟨ds, h3, h4, h5⟩ := th_all fun y hy => h y (List.mem_cons_of_mem _ hy)
    refine ⟨d :: ds, .cons h1 h3, fun e he => ?_, by rw [List.length_cons, List.length_cons, h5]⟩
    rcases List.mem_cons.mp he with z | z
    · rw [z]
      exact h2
    · exact h4 e z
theorem th_list {n : Nat} {H : Hp} {p : Addr} {xs : List V} (hp : H p = some (.lst xs)) (h : ∀ x ∈ xs, Th n x H) (h5 : xs.length ≤ 5) : Th (n + 1) (.ref p) H := by
  obtain ⟨ds, h1, h2, h3⟩ := th_all h
  exact ⟨_, .lst hp h1, gd_list h2 (by omega)⟩
theorem th_tuple {n : Nat} {H : Hp} {p : Addr} {xs : List V} (hp : H p = some (.tup xs)) (h : ∀ x ∈ xs, Th n x H) (h5 : xs.length ≤ 5) : Th (n + 1) (.ref p) H := by
  obtain ⟨ds, h1, h2, h3⟩ := th_all h
  exact ⟨_, .tup hp h1, gd_tuple h2 (by omega)⟩
/-- a text drawn from a bag -/
def spText : Sp := fun vs H Q _ => ∃ (a : Addr), vs = [.ref a] ∧ Bag H a ∧ ∀ (x : Str) (H' : Hp), Ext H H' → x.length ≤ 19 → (∀ c ∈ tl x, c < 128) → Q (.str x) H'
/-- a value drawn from a bag, so deep -/
def spPart (n : Nat) : Sp := fun vs H Q _ => ∃ (a : Addr), vs = [.ref a, .int (n : Int)] ∧ Bag H a ∧ ∀ (v : V) (H' : Hp), Ext H H' → Th (2 * n) v (nw H H') → Q v H'
def spThing : Sp := fun vs H Q _ => ∃ (a : Addr), vs = [.ref a] ∧ Bag H a ∧ ∀ (v : V) (H' : Hp), Ext H H' → Th 5 v H' → Q v H'
end Ol

set_option Elab.async false
set_option linter.all false
set_option maxRecDepth 100000
set_option maxHeartbeats 4000000
namespace Ol
open PySem PySem.Spec PyProof.Rows L2

/-- one statement of several -/
theorem cutW {X : Cx} {s : Stmt} {r : List Stmt} {D : Ends} (U W : L2.St → Hp → Prop)
    (h1 : ∃ t1, PS X s t1 ∧ ∀ nx : L2.St → Hp → Prop, (∀ σ' H', W σ' H' → nx σ' H') → ∀ σ H, U σ H → t1 { D with nx := nx } σ H)
    (h2 : ∃ t2, PSs X r t2 ∧ ∀ σ H, W σ H → t2 D σ H) : ∃ t, PSs X (s :: r) t ∧ ∀ σ H, U σ H → t D σ H := by
  obtain ⟨t2, d2, k2⟩ := h2
  obtain ⟨t1, d1, k1⟩ := h1
  exact ⟨_, pss_cons d1 d2, fun σ H u => k1 _ k2 σ H u⟩
theorem tyes {σ : L2.St} {H : Hp} {A B : Hp → Prop} (h : A H) : tYes σ H (fun b H3 => if b = true then A H3 else B H3) := by
  unfold tYes
  dsimp only
  rw [if_pos rfl]
  exact h
/-- any list comprehension of one clause: P holds of the turn, the list so far, and what is new -/
theorem lc_acc {J : It} {n : Nat} {G : Hp → Prop} {Y : Nat → Hp → V → Hp → Prop} (w : Walk J n G Y) {g : TG} {tt : TT} {te : TE} {vs : List Nat} {σ : L2.St} {H1 : Hp} {D : Addr} {Qd : Hp → Prop}
    (P : Nat → List V → Hp → Prop) (up : ∀ i xs H H', Ext H H' → P i xs H → P i xs H') (h0 : P 0 [] (fun _ => none)) (hD : H1 D = none)
    (hlen : ∀ i xs H, P i xs H → xs.length ≤ i) (hn : n ≤ sizeLine) (hG : ∀ H, Ext H1 H → G H)
    (hs : ∀ i x H H' xs, i < n → Ext H1 H → Y i H x H' → P i xs (nw (upd H1 D (.lst [])) H) →
      ∀ (QY : V → Hp → Prop) (QN : Hp → Prop),
        (∀ y H4, Ext H H4 → ((∀ Hz, Ext (nw H H4) Hz → P i xs Hz → P (i + 1) (xs ++ [y]) Hz)) → QY y H4) →
        (∀ H4, Ext H H4 → (∀ Hz, P i xs Hz → P (i + 1) xs Hz) → QN H4) →
        g x (wipe σ vs) H' fun σ2 H2 => wipe σ2 vs = wipe σ vs ∧ tt σ2 H2 fun b H3 => if b = true then te σ2 H3 QY else QN H3)
    (hd : ∀ H xs, Ext H1 H → H D = some (.lst xs) → P n xs (nw H1 H) → Qd H) :
    ∃ W : Nat → Nat → Hp → Prop, (∃ m, W 0 m (upd H1 D (.lst []))) ∧ ∀ i m H, W i m H →
      (J.stop i H ∧ Qd H) ∨ (J.go i H ∧ ∃ Nx : Hp → Prop, (∀ H', Nx H' → ∃ m', m' < m ∧ W (i + 1) m' H') ∧ ∀ x H', J.yld i H x H' → g x (wipe σ vs) H' fun σ2 H2 => wipe σ2 vs = wipe σ vs ∧ tt σ2 H2 fun b H3 =>
        if b = true then te σ2 H3 fun y H4 => ∃ acc, H4 D = some (.lst acc) ∧ acc.length < sizeLine ∧ Nx (upd H4 D (.lst (acc ++ [y]))) else Nx H3) := by
  let Hs : Hp := upd H1 D (.lst [])
  have hsD : Hs D = some (.lst []) := upd_same
  have e1 : Ext H1 Hs := Ext.new hD
  refine lc_it w (fun i H => ∃ xs, Ext H1 H ∧ H D = some (.lst xs) ∧ P i xs (nw Hs H))
    ⟨[], e1, hsD, up 0 [] _ _ (fun _ o z => by have z' : (none : Option HO) = some o := z; cases z') h0⟩ (by rintro i H _ ⟨xs, e, _⟩; exact hG H e) ?_ ?_
  · rintro i x H H' hi ⟨xs, e, hx, hp⟩ y
    have dom : ∀ b, H b = none → Hs b = none := by
      intro b q
      have z : b ≠ D := fun z => by rw [z, hx] at q; cases q
      rw [show Hs b = H1 b from upd_ne z]
      exact e.free q
    refine hs i x H H' xs hi e y hp _ _ ?_ ?_
    · intro v H4 e4 k
      refine ⟨xs, e4 _ _ hx, by have := hlen _ _ _ hp; omega, xs ++ [v], Ext.mut (e.trans e4) hD, upd_same, ?_⟩
      have toN : Ext (nw Hs H4) (nw Hs (upd H4 D (.lst (xs ++ [v])))) := nw_mut hsD
      exact k _ ((nw_dom dom).trans toN) (up _ _ _ _ ((nw_up e4).trans toN) hp)
    · intro H4 e4 k
      exact ⟨xs, e.trans e4, e4 _ _ hx, k _ (up _ _ _ _ (nw_up e4) hp)⟩
  · rintro H ⟨xs, e, hx, hp⟩
    exact hd H xs e hx (up _ _ _ _ (nw_base e1) hp)
end Ol

set_option Elab.async false
set_option linter.all false
set_option maxRecDepth 100000
set_option maxHeartbeats 4000000
namespace Ol
open PySem PySem.Spec PyProof.Rows L2

/-- x in o, o an instance of a class with its own __contains__ -/
def rInO (C : Addr) (sp : Sp) : R2 := fun x y H Q => ∃ (a dx : Addr) (fs : List (Str × V)), y = .ref a ∧ H a = some (.ins C dx fs) ∧
  sp [.ref a, x] H (fun v H' => ∃ b, v = .bl b ∧ Q (.bl b) H') E0
def rNotInO (C : Addr) (sp : Sp) : R2 := fun x y H Q => ∃ (a dx : Addr) (fs : List (Str × V)), y = .ref a ∧ H a = some (.ins C dx fs) ∧
  sp [.ref a, x] H (fun v H' => ∃ b, v = .bl b ∧ Q (.bl (!b)) H') E0
section
variable {X : Cx} {k : Nat} {C f : Addr} {fd : FuncData} {ps : List Str} {sp : Sp}
theorem op_inO (F : FnOk X.prog X.w X.K X.mg X.base CX0 k f fd ps sp) (hr : Room k X.A) (hs : PySem.W.findIn X.K (.ref C) "__contains__" = some (some (.ref f)))
    (hf : PySem.W.isFn X.K (.ref f) = true) (b : Binds X.K fd ps []) : OpR X (compareOp .In) (rInO C sp) := by
  intro pins s σ H x y v u Q I rx ry h
  obtain ⟨a, dx, fs, rfl, ho, h⟩ := h
  cases ry
  obtain ⟨mA, O, _⟩ := ins_get I.hok ho
  obtain ⟨od, J, _⟩ := O.look
  obtain ⟨m, fr⟩ := I.fr
  refine PySem.W.in_K fr I.ok.mod.kin J hs hf ?_
  refine wpAny_mono (run_fn (us := [.ref a, v]) (vs := [.ref a, x]) (E := E0) F hr b .nil pass0 I (.cons rfl (.cons rx .nil)) h) ?_ (fun _ _ z => z)
  rintro r s' ⟨w, H', I', rw', b', rfl, q⟩
  cases rw'
  exact wpAny_truthy_bool ⟨.bl b', H', I', rfl, q⟩
theorem op_notInO (F : FnOk X.prog X.w X.K X.mg X.base CX0 k f fd ps sp) (hr : Room k X.A) (hs : PySem.W.findIn X.K (.ref C) "__contains__" = some (some (.ref f)))
    (hf : PySem.W.isFn X.K (.ref f) = true) (b : Binds X.K fd ps []) : OpR X (compareOp .NotIn) (rNotInO C sp) := by
  intro pins s σ H x y v u Q I rx ry h
  obtain ⟨a, dx, fs, rfl, ho, h⟩ := h
  cases ry
  obtain ⟨mA, O, _⟩ := ins_get I.hok ho
  obtain ⟨od, J, _⟩ := O.look
  obtain ⟨m, fr⟩ := I.fr
  refine PySem.W.notIn_K fr I.ok.mod.kin J hs hf ?_
  refine wpAny_mono (run_fn (us := [.ref a, v]) (vs := [.ref a, x]) (E := E0) F hr b .nil pass0 I (.cons rfl (.cons rx .nil)) h) ?_ (fun _ _ z => z)
  rintro r s' ⟨w, H', I', rw', b', rfl, q⟩
  cases rw'
  exact wpAny_truthy_bool ⟨.bl (!b'), H', I', rfl, q⟩
end
end Ol

set_option Elab.async false
set_option linter.all false
set_option maxRecDepth 100000
set_option maxHeartbeats 4000000
namespace K28
open PySem PySem.Spec PyProof.Rows L2 Ol
open TL (tl)
def topS (i : Nat) : Stmt := PySem.Challenge.pw_openlanes_k28_standings.main.body.getD i (.Pass ⟨0, 0, 0, 0⟩)
section
variable {P : Program} {w : World} {K : PySem.W.Frag} {mg : Str → Option Value} {base : Heap}
def isBoundD : PyData → Bool
  | .int i => decide (1 ≤ i)
  | _ => false
abbrev s_is_bound : Stmt := (topS 23)
theorem sc_is_bound : FnScope ["thing"] ["thing"] (defScope s_is_bound) := ⟨rfl, rfl, rfl, by decide +kernel, rfl, by decide +kernel, by decide +kernel⟩
theorem ok_is_bound {f : Addr} {fd : FuncData} (F : Fun K "is_bound" "is_bound" s_is_bound f fd) (C1 : Ca P w K mg base 1 "is_integer" ["thing"] (spPred Any isIntD)) :
    FnOk P w K mg base CX0 2 f fd ["thing"] (spPred Any isBoundD) := by
  refine F.ok sc_is_bound (fun vs H Q E h => ?_) (fun cdv A outer s H vs Q E hr h => ?_)
  · obtain ⟨v, d, rfl, _⟩ := h
    rfl
  · obtain ⟨v, d, rfl, hd, hz, q⟩ := h
    refine ⟨_, (pss_one (ps_ret (pe_and (pe_ca C1 (hr.mono (by decide)) (by rfl) (pa_cons (pv 0) pa_nil)) (pe_one (pe_cmpR op_ge (pv 0) pe_int (nomark _)))))), ?_⟩
    refine ⟨_, rfl, v, d, rfl, hd, trivial, fun H1 e1 => ⟨_, rfl, ?_⟩⟩
    refine ite2 (fun h => ?_) (fun h => ?_)
    · obtain ⟨i, rfl, rfl⟩ := dq_int hd h
      refine ⟨_, rfl, _, _, rfl, rfl, ?_⟩
      exact q H1 e1
    · have e : isBoundD d = false := by
        cases d with
        | int i => exact absurd rfl h
        | _ => rfl
      have q' := q H1 e1
      rw [e] at q'
      exact q'
/-- names with whole numbers, as a dict holds them -/
def kvI (ps : List (Str × Int)) : List (Key × V) := ps.map fun p => (.inr p.1, .int p.2)
def spIsBounds : Sp := fun vs H Q _ => ∃ (a : Addr) (ps : List (Str × Int)), vs = [.ref a] ∧ H a = some (.dK (kvI ps)) ∧ ps ≠ [] ∧ ps.length ≤ 1000 ∧
  (∀ p ∈ ps, isNameS p.1 = true ∧ 1 ≤ p.2) ∧ ∀ H', Ext H H' → Q (.bl true) H'
abbrev s_is_bounds : Stmt := (topS 24)
theorem sc_is_bounds : FnScope ["thing", "name", "bound"] ["thing"] (defScope s_is_bounds) := ⟨rfl, rfl, rfl, by decide +kernel, rfl, by decide +kernel, by decide +kernel⟩
theorem ok_is_bounds {f : Addr} {fd : FuncData} (F : Fun K "is_bounds" "is_bounds" s_is_bounds f fd) (T : BT mg)
    (C3 : Ca P w K mg base 1 "is_name" ["thing"] (spPred Ok1 isNameD)) (C4 : Ca P w K mg base 2 "is_bound" ["thing"] (spPred Any isBoundD)) :
    FnOk P w K mg base CX0 3 f fd ["thing"] spIsBounds := by
  refine F.ok sc_is_bounds (fun vs H Q E h => ?_) (fun cdv A outer s H vs Q E hr h => ?_)
  · obtain ⟨a, ps, rfl, _⟩ := h
    rfl
  · obtain ⟨a, ps, rfl, ha, hne, hl, hps, q⟩ := h
    refine ⟨_, (pss_cons (ps_if (PW.pt (pw_or (pt_not (pt_val (pe_callB call_isi (by rfl) T.n_isinstance (by decide +kernel) (pa_cons (pv 0) (pa_cons (pe_bltn (v := .ty "dict") (by rfl) T.n_dict (by decide +kernel) rfl) pa_nil))))) (pw_or1 (pt_cmpR op_eq (pe_callB call_lenD (by rfl) T.n_len (by decide +kernel) (pa_cons (pv 0) pa_nil)) pe_int (nomark _)))))
      (pss_one (ps_ret pe_bl))
      pss_nil)
    (pss_one (ps_ret (pe_callB (cr_all rfl) (by rfl) T.n_all (by decide +kernel) (pa_cons (pe_lock (pe_lc (own := [("name", 1), ("bound", 2)]) (g := gTup K 2 (gCons (gName 1) (gCons (gName 2) gNil))) (tt := tYes) rfl sc_is_bounds.nd (pi_items (pv 0)) (blkOk_by (N := ["thing", "name", "bound"]) (sc := defScope s_is_bounds) (by decide +kernel)) (fun _ _ _ _ _ => (pg_tup (by rfl) (pgs_cons (pg_name (i := 1) sc_is_bounds.nd rfl (.inl rfl)) (pgs_cons (pg_name (i := 2) sc_is_bounds.nd rfl (.inl rfl)) pgs_nil)))) (fun _ _ _ _ _ => pts_nil) (fun _ _ _ _ _ => (pe_and (pe_ca C3 (hr.mono (by decide)) (by rfl) (pa_cons (pv 1) pa_nil)) (pe_one (pe_ca C4 (hr.mono (by decide)) (by rfl) (pa_cons (pv 2) pa_nil))))))) pa_nil))))), ?_⟩
    refine ⟨_, rfl, _, _, _, _, _, rfl, .ty "dict", .base (.dK ha), ki_dict (.dict []), _, rfl, ?_⟩
    refine iteF ?_
    refine ⟨_, rfl, a, _, rfl, ha, rfl, _, rfl, ?_⟩
    have hlen : (kvI ps).length = ps.length := by unfold kvI; rw [List.length_map]
    refine ite2 (fun g => ?_) (fun _ => ?_)
    · have z := of_decide_eq_true g
      injection z with z
      rw [hlen] at z
      cases ps with
      | nil => exact absurd rfl hne
      | cons p ps => simp at z; omega
    refine ⟨a, _, ha, trivial, fun od => ⟨_, rfl, a, od, _, rfl, upd_same, fun D hD => ?_⟩⟩
    have nD : D ≠ a := fun z => by rw [z, upd_same] at hD; cases hD
    refine lc_acc walk_items (fun i xs _ => xs = List.replicate i (V.bl true)) (fun _ _ _ _ _ h => h) rfl hD (fun i xs _ h => by rw [h, List.length_replicate]; exact Nat.le_refl _) (by rw [hlen]; exact Nat.le_trans hl (by decide)) (fun H' e => e _ _ upd_same) ?_ ?_
    · rintro i x H1 H2 xs hi e1 ⟨T', y1, y2, rfl, hT, rfl, g1, g2⟩ hp QY QN kY kN
      have hi' : i < ps.length := by rw [← hlen]; exact hi
      have hk : (kvI ps)[i]? = some (.inr ps[i].1, .int ps[i].2) := by
        unfold kvI
        rw [List.getElem?_map, List.getElem?_eq_getElem hi']
        rfl
      have k1 : y1 = .str ps[i].1 := by
        have z := g1
        dsimp only at z
        rw [hk] at z
        exact (Option.some.inj z).symm
      have k2 : y2 = .int ps[i].2 := by
        have z := g2
        dsimp only at z
        rw [hk] at z
        exact (Option.some.inj z).symm
      subst k1
      subst k2
      obtain ⟨b1, b2⟩ := hps _ (List.getElem_mem hi')
      have eT := Ext.new (o := .tup [.str ps[i].1, .int ps[i].2]) hT
      refine ⟨T', _, rfl, SqT.of upd_same, rfl, _, _, rfl, _, _, rfl, rfl, rfl, ?_⟩
      refine tyes ?_
      refine ⟨_, rfl, _, _, rfl, .str _, (fun x hx => by cases hx; exact name_tx b1), fun H3 e3 => ⟨_, rfl, ?_⟩⟩
      rw [if_pos (show isNameD (.str ps[i].1) = true from b1)]
      refine ⟨_, rfl, _, _, rfl, .int _, trivial, fun H4 e4 => ?_⟩
      rw [show isBoundD (.int ps[i].2) = true from decide_eq_true b2]
      refine kY _ H4 ((eT.trans e3).trans e4) fun Hz _ hh => ?_
      rw [hh, List.replicate_succ']
    · rintro H1 xs e1 hx hp
      subst hp
      refine ⟨e1 _ _ upd_same, D, List.replicate (kvI ps).length true, rfl, SqL.of ?_, ?_⟩
      · rw [upd_ne nD, hx, List.map_replicate]
      · have e2 : Ext H (upd H1 a (.dK (kvI ps))) := fun b o z => by
          by_cases c : b = a
          · rw [c] at z ⊢
            rw [upd_same, ← ha, z]
          · rw [upd_ne c]
            exact e1 _ _ (by rw [upd_ne c]; exact z)
        have ea : (List.replicate (kvI ps).length true).all id = true := by simp
        rw [ea]
        exact q _ e2
end
end K28

set_option Elab.async false
set_option linter.all false
set_option maxRecDepth 100000
set_option maxHeartbeats 4000000
namespace K28
open PySem PySem.Spec PyProof.Rows L2 Ol
open TL (tl)
section
variable {P : Program} {w : World} {K : PySem.W.Frag} {mg : Str → Option Value} {base : Heap}
/-- the state of a lane, as data -/
def stD (c : Nat) (b : Bool) : PyData := .tuple [.int (c : Int), .bool b]
def optD : Option (Nat × Bool) → PyData
  | none => .none
  | some s => stD s.1 s.2
theorem st_inv {H : Hp} {v : V} {c : Nat} {b : Bool} (h : Dq H v (stD c b)) : ∃ a, v = .ref a ∧ H a = some (.tup [.int (c : Int), .bl b]) := by
  generalize e : stD c b = d at h
  cases h with
  | tup h t =>
    unfold stD at e
    cases e
    cases t with
    | cons t1 t2 =>
      cases t1
      cases t2 with
      | cons t3 t4 =>
        cases t3
        cases t4
        exact ⟨_, rfl, h⟩
  | _ => cases e
theorem st_new {H : Hp} {p : Addr} {c : Nat} {b : Bool} : Dq (upd H p (.tup [.int (c : Int), .bl b])) (.ref p) (stD c b) :=
  .tup upd_same (.cons (.int _) (.cons (.bl _) .nil))
end
end K28

set_option Elab.async false
set_option linter.all false
set_option maxRecDepth 100000
set_option maxHeartbeats 4000000
namespace Ol
open PySem PySem.Spec PyProof.Rows L2

/-! ### enumerate(t), t a tuple -/
theorem meets_enumerate_new1 {v : Value} {o : Obj} {H : Heap → Prop} (B : Begins v o H) :
    Meets (Builtin.«enumerate.__new__» ⟨[.type "enumerate", v], []⟩) (fun _ R s => H s.heap ∧
      R (.ok (.ret (.ref (s.heap.push o).objs.size))) { s with heap := (s.heap.push o).push { cls := .type "enumerate", data := .fields #[.none, .bool false, .ref s.heap.objs.size, rawInt 0, .none, .none] } }) :=
  .of_wp fun prog w A R s h => by
    obtain ⟨hp, g, d, tk, os⟩ := s
    obtain ⟨h1, h⟩ := h
    have hsub := sub_enumerate
    have q1 : ∀ {A' : Around} {E : Value → Shared → Prop} {Q : Value → Shared → Prop}, Q (.ref hp.objs.size) ⟨hp.push o, g, d, tk, os⟩ → wpAny (model prog w) A' (pyIter v) Q E ⟨hp, g, d, tk, os⟩ :=
      fun q => B.iter prog w _ _ ⟨hp, g, d, tk, os⟩ _ h1 q
    wp_walk using q1
    refine wpAny_stack_any fun st => wpAny_pure ?_
    split
    · rename_i c _ _ _ _ _
      cases (c == Value.type "enumerate")
      · wp_walk using q1
        exact ⟨_, rfl, h⟩
      · wp_walk using q1
        exact ⟨_, rfl, h⟩
    · wp_walk using q1
      exact ⟨_, rfl, h⟩
section
variable {prog : Program} {w : World} {A : Around} {E : Value → Shared → Prop} {s : Shared}
theorem enum_begins1 {v : Value} {o : Obj} {H : Heap → Prop} {Q : Value → Shared → Prop} (B : Begins v o H) (h1 : H s.heap)
    (h : ∀ h', IsEnum h' (s.heap.objs.size + 1) s.heap.objs.size 0 .none → h'.get? s.heap.objs.size = some o → h'.objs.size = s.heap.objs.size + 2 →
      (∀ b o, s.heap.get? b = some o → h'.get? b = some o) → Q (.ref (s.heap.objs.size + 1)) { s with heap := h' }) :
    wpAny (model prog w) A (call (.type "enumerate") [v]) Q E s := by
  refine callType_new F.called_enumerate (by decide) (F.typeCall_enumerate_1 _) (F.newCall_enumerate_1 _) (fun obj => F.args_object_init_2 obj _) F.entry_enumerate_new
    (meets_enumerate_new1 B) ⟨h1, ?_⟩
  have hz : (s.heap.push o).objs.size = s.heap.objs.size + 1 := Heap.size_push ..
  show _ ∧ _
  rw [hz]
  have he : IsEnum ((s.heap.push o).push { cls := .type "enumerate", data := .fields #[.none, .bool false, .ref s.heap.objs.size, rawInt 0, .none, .none] }) (s.heap.objs.size + 1) s.heap.objs.size 0 .none := by
    have := Heap.get?_push_size (s.heap.push o) (o := { cls := .type "enumerate", data := .fields #[.none, .bool false, .ref s.heap.objs.size, rawInt 0, .none, .none] }) rfl
    rw [hz] at this; exact this
  refine ⟨⟨_, he, rfl⟩, h _ he (Heap.get?_push_of_some _ (Heap.get?_push_size _ B.free)) (by rw [Heap.size_push, hz]) fun b o x => Heap.get?_push_of_some _ (Heap.get?_push_of_some _ x)⟩
end
/-- the tuple at a as it stands, each item with its place in a new pair -/
def IteT (K : PySem.W.Frag) (a : Addr) : It :=
  ⟨fun i H => ∃ (xs : List V) (x : V), SqT K H a xs ∧ xs[i]? = some x, fun i H v H' => ∃ T x, v = .ref T ∧ H T = none ∧ H' = upd H T (.tup [.int (i : Nat), x]) ∧ ∀ xs, SqT K H a xs → xs[i]? = some x, fun i H => ∃ xs : List V, SqT K H a xs ∧ xs.length ≤ i⟩
theorem turn_enumT {P : Program} {w : World} {K : PySem.W.Frag} {elts : List Expr} {kk : Nat} {tpos : Pos} (a e it : Addr) :
    Turn P w K (.Tuple elts kk tpos) (IteT K a) [e, it] e (fun i h => (∃ old, IsEnum h e it ((i : Nat) : Int) old) ∧ h.IsTupleIter it a i ∧ e ≠ it ∧ a ≠ it ∧ e ≠ a) where
  mem := by simp
  obj := fun i h st b hb => by
    obtain ⟨⟨old, he⟩, ⟨o, ho, hc, hd⟩, _⟩ := st
    have e' : b = e ∨ b = it := by simpa using hb
    rcases e' with z | z
    · rw [z]; exact ⟨_, he, fun v q => nomatch q⟩
    · rw [z]; exact ⟨o, ho, fun v q => by rw [hd] at q; cases q⟩
  keep := fun i h h' st k => let ⟨⟨old, he⟩, hi, hne⟩ := st; ⟨⟨old, k e (by simp) _ he⟩, hi.at fun o q => k it (by simp) o q, hne⟩
  item := by
    intro X hP hw hK hc i pins s σ H E I hf st hg
    subst hP hw hK
    obtain ⟨⟨old, he⟩, hit, hne, hai, hea⟩ := st
    obtain ⟨xs, x, hq, hx⟩ := hg
    obtain ⟨its, rv, p, hz⟩ := I.tuple hq
    obtain ⟨u, hu, ru⟩ := rv.get hx
    have hel : e < s.heap.objs.size := Heap.lt_size he
    have hil : it < s.heap.objs.size := by obtain ⟨_, q, _⟩ := hit; exact Heap.lt_size q
    have hlt : i < its.toArray.size := by have := rv.length; have := (List.getElem?_eq_some_iff.mp hx).1; simp; omega
    refine wpAny_pyNext_enum_itemD (Draws.tuple (A := X.A.in1) (show X.A.in1.handled = none from I.ok.hd hc) it a hai its.toArray) he ⟨hit, p⟩ hlt hne (by simp [hne, hea]) fun u' h' tk hu' ho st' hT hsz hk => ?_
    have eu : u' = u := by
      have z : its.toArray[i]? = some u := by simpa using hu
      rw [z] at hu'
      exact (Option.some.inj hu').symm
    subst eu
    refine ⟨_, rfl, wpAny_letOwnedTupleGo_enum (s := { s with heap := h', toks := tk + 1 }) ho fun h'' he' sb => ?_⟩
    have hT2 : h''.get? s.heap.objs.size = some { cls := .type "tuple", data := .seq #[.int i tk, u'] } := (sb.2 _ (Nat.ne_of_gt hel)).trans hT
    have new : ObjOk X.prog X.w (upd H s.heap.objs.size (.tup [.int (i : Nat), x])) h'' s.heap.objs.size (.tup [.int (i : Nat), x]) :=
      ⟨by show 2 ≤ sizeLine; decide, [.int i tk, u'], .cons ⟨_, rfl⟩ (.cons ru .nil), ⟨_, hT2, rfl, _, rfl⟩⟩
    have I1 : Inv X pins σ (upd H s.heap.objs.size (.tup [.int (i : Nat), x])) { s with heap := h'', toks := tk + 1 } :=
      I.turnedNew (ch := [e, it]) (fun b ob hb q => (sb.2 b (fun z => hb (by simp [z]))).trans (hk b ob (fun z => hb (by simp [z])) (fun z => hb (by simp [z])) q)) hf (Nat.le_refl _) new
    refine ⟨.ref s.heap.objs.size, _, I1, rfl, ⟨_, x, rfl, I.hok.fresh (Nat.le_refl _), rfl, fun ys hy => by rw [I.tuple_inj hy hq]; exact hx⟩, ⟨⟨u', ?_⟩, st'.1.at fun o q => (sb.2 it (Ne.symm hne)).trans q, hne, hai, hea⟩, fun b hb => ?_⟩
    · have e1 : ((i + 1 : Nat) : Int) = (i : Int) + 1 := by omega
      rw [e1]; exact he'
    · have hb' : b < s.heap.objs.size := by
        have e' : b = e ∨ b = it := by simpa using hb
        rcases e' with z | z
        · rw [z]; exact hel
        · rw [z]; exact hil
      rw [upd_ne (Nat.ne_of_lt hb')]
      exact (hf b hb).1
  done := by
    intro X hP hw hK hc i pins s σ H E I hf st hg
    subst hP hw hK
    obtain ⟨⟨old, he⟩, hit, hne, hai, hea⟩ := st
    obtain ⟨xs, hq, hx⟩ := hg
    obtain ⟨its, rv, p, hz⟩ := I.tuple hq
    obtain ⟨f0, f1, f2, f3, f4, f5⟩ := hf it (by simp)
    have hl := rv.length
    have hT : s.TypeIs (.ref e) "enumerate" := ⟨_, he, rfl⟩
    unfold pyNext
    refine wpAny_bind (wpAny_attempt (wpAny_callSpecial?_slot (name := Str.ofString "__next__") hT F.slot_enumerate_next
      (wpAny_call_entry F.slot_enumerate_next hT F.entry_enumerate_next ?_ (F.args_enumerate_next_1 _))))
    show wpAny _ _ (field (.ref e) 2 >>= _) _ _ _
    refine wpAny_bind (wpAny_field he rfl (x := .ref it) rfl ?_)
    refine wpAny_bind (wpAny_nextOf_tuple_end (I.ok.hd hc) hit p (by simp; omega) fun h' x he' hx' => ?_)
    obtain ⟨o, ho, hcl⟩ := hx'
    refine wpAny_bind (wpAny_isInstance (T := "StopIteration") (b := true) ⟨o, ho, hcl⟩ isSubtype_stop ?_)
    exact wpAny_pure ⟨rfl, I.turned (t' := s.toks) (fun b o hb q => he' b o hb q) f0 f1 f3 f4 f5⟩
  self := fun A i s Q E st h => let ⟨⟨_, he⟩, _⟩ := st; wpAny_pyIter_enum he h
def iEnumT (K : PySem.W.Frag) (ta : TA) : TI := fun σ H R => ta σ H fun vs H1 => ∃ a xs, vs = [.ref a] ∧ SqT K H1 a xs ∧ R (IteT K a) H1
theorem pi_enumT {X : Cx} {e : Expr} {ta : TA} {p pos tpos : Pos} {elts : List Expr} {kk : Nat} (hg : Gl X "enumerate") (hm : X.mg "enumerate" = none) (ha : PA X [e] ta) (hs : starEach [e] X.env = [(false, eval e X.env)] := by rfl) :
    PI X (.Tuple elts kk tpos) (.Call (.Name "enumerate" p) [e] [] pos) (iEnumT X.K ta) := by
  refine ⟨fun pins s σ H R I h => ?_⟩
  refine Call_ (ld_blt I hg hm boot_enumerate (PyProof.Rows.callWith_type1 (thn (ha.run pos pins s σ H _ I h) fun us s1 ⟨vs, H1, I1, r1, q1⟩ => ?_) hs rfl))
  obtain ⟨a, xs, ex, hq, q⟩ := q1
  subst ex
  cases r1 with
  | cons r rr =>
    cases rr
    cases r
    obtain ⟨its, rv, p', hz⟩ := I1.tuple hq
    have hal : a < s1.heap.objs.size := by obtain ⟨_, q, _⟩ := p'; exact Heap.lt_size q
    refine enum_begins1 (begins_tuple a its.toArray) p' fun h' he hit hsz hk => wpAny_pyIter_enum he ?_
    have I2 : Inv X pins σ H1 { s1 with heap := h' } := I1.kept (t' := s1.toks) hk
    refine ⟨s1.heap.objs.size + 1, [s1.heap.objs.size + 1, s1.heap.objs.size], _, _, H1, rfl, I2, turn_enumT a (s1.heap.objs.size + 1) s1.heap.objs.size, ⟨⟨.none, he⟩, ⟨_, hit, rfl, rfl⟩, Nat.succ_ne_self _, Nat.ne_of_lt hal, Nat.ne_of_gt (Nat.lt_succ_of_lt hal)⟩, fun b hb => ?_, q⟩
    have e' : b = s1.heap.objs.size + 1 ∨ b = s1.heap.objs.size := by simpa using hb
    have hle : s1.heap.objs.size ≤ b := by
      rcases e' with z | z
      · rw [z]; exact Nat.le_add_right _ _
      · rw [z]; exact Nat.le_refl _
    exact I1.fpOk hle (I1.hok.fresh hle)
theorem walk_enumT {K : PySem.W.Frag} {a : Addr} {xs : List V} : Walk (IteT K a) xs.length (fun H => SqT K H a xs) (YPair (fun i => some (.int (i : Nat))) (fun i => xs[i]?)) := by
  refine ⟨fun i _ hi q => ⟨xs, xs[i], q, by simp [hi]⟩, fun _ q => ⟨xs, q, Nat.le_refl _⟩, fun i H v H' _ q y => ?_⟩
  obtain ⟨T, x, h1, h2, h3, h4⟩ := y
  exact ⟨T, .int (i : Nat), x, h1, h2, h3, rfl, h4 xs q⟩
end Ol

set_option Elab.async false
set_option linter.all false
set_option maxRecDepth 100000
set_option maxHeartbeats 4000000
namespace Ol
open PySem PySem.Spec PyProof.Rows L2

/-- a dict comprehension over any walk -/
theorem dc_it {J : It} {n : Nat} {G : Hp → Prop} {Y : Nat → Hp → V → Hp → Prop} (w : Walk J n G Y) {g : TG} {tt : TT} {tk tv : TE} {vs : List Nat} {σ : L2.St} {H1 : Hp} {D : Addr} {Qd : Hp → Prop} (Pv : Nat → Hp → Prop)
    (h0 : Pv 0 (upd H1 D (.dK []))) (hG : ∀ i H, i ≤ n → Pv i H → G H)
    (hs : ∀ i x H H', i < n → Pv i H → Y i H x H' → g x (wipe σ vs) H' fun σ2 H2 => wipe σ2 vs = wipe σ vs ∧ tt σ2 H2 fun b H3 =>
      if b = true then tk σ2 H3 fun y H4 => tv σ2 H4 fun z H5 => ∃ kvs k, y = kV k ∧ H5 D = some (.dK kvs) ∧ kvs.length < sizeLine ∧ Pv (i + 1) (upd H5 D (.dK (putK kvs k z))) else Pv (i + 1) H3) (hd : ∀ H, Pv n H → Qd H) :
    ∃ W : Nat → Nat → Hp → Prop, (∃ m, W 0 m (upd H1 D (.dK []))) ∧ ∀ i m H, W i m H →
      (J.stop i H ∧ Qd H) ∨ (J.go i H ∧ ∃ Nx : Hp → Prop, (∀ H', Nx H' → ∃ m', m' < m ∧ W (i + 1) m' H') ∧ ∀ x H', J.yld i H x H' → g x (wipe σ vs) H' fun σ2 H2 => wipe σ2 vs = wipe σ vs ∧ tt σ2 H2 fun b H3 =>
        if b = true then tk σ2 H3 fun y H4 => tv σ2 H4 fun z H5 => ∃ kvs k, y = kV k ∧ H5 D = some (.dK kvs) ∧ kvs.length < sizeLine ∧ Nx (upd H5 D (.dK (putK kvs k z))) else Nx H3) := by
  refine ⟨fun i m H => m = n - i ∧ i ≤ n ∧ Pv i H, ⟨n, by simp, Nat.zero_le _, h0⟩, ?_⟩
  rintro i m H ⟨rfl, hi, p⟩
  have q := hG i H hi p
  by_cases hlt : i < n
  · exact .inr ⟨w.goes i H hlt q, Pv (i + 1), fun H' p' => ⟨n - (i + 1), by omega, rfl, hlt, p'⟩, fun x H' y => hs i x H H' hlt p (w.yields i H x H' hlt q y)⟩
  · have e : i = n := by omega
    subst e
    exact .inl ⟨w.stops H q, hd H p⟩

/-- names and their places, as a dict holds them -/
def spots (ns : List Str) : List (Key × V) := ns.zipIdx.map fun p => (.inr p.1, .int (p.2 : Int))
theorem spots_len (ns : List Str) : (spots ns).length = ns.length := by unfold spots; rw [List.length_map, List.length_zipIdx]
theorem spots_snoc (ns : List Str) (x : Str) : spots (ns ++ [x]) = spots ns ++ [(.inr x, .int (ns.length : Int))] := by
  unfold spots
  rw [List.zipIdx_append, List.map_append]
  simp
theorem valV_none {kvs : List (Key × V)} {k : Key} (h : ∀ p ∈ kvs, p.1 ≠ k) : valV kvs k = none := by
  induction kvs with
  | nil => rfl
  | cons p r ih => rw [valV_neg (h p List.mem_cons_self), ih fun q hq => h q (List.mem_cons_of_mem _ hq)]
theorem putK_new {kvs : List (Key × V)} {k : Key} {v : V} (h : valV kvs k = none) : putK kvs k v = kvs ++ [(k, v)] := by
  unfold putK
  rw [valV_any, h]
  rfl
theorem spots_key (ns : List Str) : (spots ns).map (·.1) = ns.map Sum.inr := by
  unfold spots
  rw [List.map_map]
  have h : ∀ (l : List Str) (k : Nat), (l.zipIdx k).map ((fun p : Key × V => p.1) ∘ fun p => (Sum.inr p.1, V.int (p.2 : Int))) = l.map Sum.inr := by
    intro l
    induction l with
    | nil => intro k; rfl
    | cons a l ih =>
      intro k
      rw [List.zipIdx_cons, List.map_cons, ih]
      rfl
  exact h ns 0
theorem spots_none {ns : List Str} {x : Str} (h : x ∉ ns) : valV (spots ns) (.inr x) = none := by
  refine valV_none fun p hp e => h ?_
  have z : p.1 ∈ (spots ns).map (·.1) := List.mem_map_of_mem hp
  rw [spots_key, e] at z
  obtain ⟨y, hy, ey⟩ := List.mem_map.mp z
  cases ey
  exact hy
theorem spots_val {ns : List Str} (hd : ns.Nodup) {i : Nat} (hi : i < ns.length) : valV (spots ns) (.inr ns[i]) = some (.int (i : Int)) := by
  unfold spots
  have h : ∀ (l : List Str) (k i : Nat) (hi : i < l.length), l.Nodup → valV ((l.zipIdx k).map fun p => ((.inr p.1, .int (p.2 : Int)) : Key × V)) (.inr l[i]) = some (.int ((k + i : Nat) : Int)) := by
    intro l
    induction l with
    | nil => intro k i hi; cases hi
    | cons a l ih =>
      intro k i hi hn
      rw [List.zipIdx_cons, List.map_cons]
      cases i with
      | zero => exact valV_pos rfl
      | succ i =>
        rw [List.nodup_cons] at hn
        have hi' : i < l.length := by simpa using hi
        rw [valV_neg]
        · show valV _ (Sum.inr l[i]) = _
          rw [ih (k + 1) i hi' hn.2]
          rw [show k + 1 + i = k + (i + 1) by omega]
        · intro z
          have z' : a = l[i] := Sum.inr.inj z
          exact hn.1 (z' ▸ List.getElem_mem hi')
  have z := h ns 0 i hi hd
  rw [Nat.zero_add] at z
  exact z
end Ol

set_option Elab.async false
set_option linter.all false
set_option maxRecDepth 100000
set_option maxHeartbeats 4000000
namespace K28
open PySem PySem.Spec PyProof.Rows L2 Ol
open TL (tl)
/-- the fields -/
def lf (n b s : Addr) : List (Str × V) := [("_names", .ref n), ("_bounds", .ref b), ("_spots", .ref s)]
theorem n_b : ¬ (("_names" : Str) = "_bounds") := by decide +kernel
theorem n_s : ¬ (("_names" : Str) = "_spots") := by decide +kernel
theorem b_s : ¬ (("_bounds" : Str) = "_spots") := by decide +kernel
theorem b_n : ¬ (("_bounds" : Str) = "_names") := by decide +kernel
theorem s_n : ¬ (("_spots" : Str) = "_names") := by decide +kernel
theorem s_b : ¬ (("_spots" : Str) = "_bounds") := by decide +kernel
theorem lf_n (n b s : Addr) : (lf n b s).lookup ("_names" : Str) = some (.ref n) := by
  unfold lf
  rw [List.lookup_cons_self]
theorem lf_b (n b s : Addr) : (lf n b s).lookup ("_bounds" : Str) = some (.ref b) := by
  unfold lf
  rw [List.lookup_cons, beq_eq_false_iff_ne.mpr b_n]
  dsimp only
  rw [List.lookup_cons_self]
theorem lf_s (n b s : Addr) : (lf n b s).lookup ("_spots" : Str) = some (.ref s) := by
  unfold lf
  rw [List.lookup_cons, beq_eq_false_iff_ne.mpr s_n]
  dsimp only
  rw [List.lookup_cons, beq_eq_false_iff_ne.mpr s_b]
  dsimp only
  rw [List.lookup_cons_self]
theorem lf_no (n b s : Addr) {m : Str} (h1 : ¬ m = "_names") (h2 : ¬ m = "_bounds") (h3 : ¬ m = "_spots") : (lf n b s).lookup m = none := by
  unfold lf
  rw [List.lookup_cons, beq_eq_false_iff_ne.mpr h1]
  dsimp only
  rw [List.lookup_cons, beq_eq_false_iff_ne.mpr h2]
  dsimp only
  rw [List.lookup_cons, beq_eq_false_iff_ne.mpr h3]
  rfl
theorem put1 (n : Addr) : putF "_names" (.ref n) [] = ([("_names", V.ref n)] : List (Str × V)) := rfl
theorem put2 (n b : Addr) : putF "_bounds" (.ref b) [("_names", V.ref n)] = ([("_names", V.ref n), ("_bounds", V.ref b)] : List (Str × V)) := by
  show (if ("_names" : Str) = "_bounds" then _ else (("_names" : Str), V.ref n) :: putF "_bounds" (V.ref b) []) = _
  rw [if_neg n_b]
  rfl
theorem put3 (n b s : Addr) : putF "_spots" (.ref s) [("_names", V.ref n), ("_bounds", V.ref b)] = lf n b s := by
  show (if ("_names" : Str) = "_spots" then _ else (("_names" : Str), V.ref n) :: (if ("_bounds" : Str) = "_spots" then _ else (("_bounds" : Str), V.ref b) :: putF "_spots" (V.ref s) [])) = _
  rw [if_neg n_s, if_neg b_s]
  rfl
/-- Lanes with these names and bounds stand at p -/
def LanesAt (C : Addr) (H : Hp) (p : Addr) (ns : List Str) (bs : List Int) : Prop :=
  ∃ dx n b s, H p = some (.ins C dx (lf n b s)) ∧ H n = some (.tup (ns.map V.str)) ∧ H b = some (.tup (bs.map V.int)) ∧ H s = some (.dK (spots ns)) ∧
    bs.length = ns.length ∧ ns.Nodup ∧ ns.length ≤ 60 ∧ (∀ x ∈ ns, isNameS x = true) ∧ (∀ i ∈ bs, 1 ≤ i)
theorem LanesAt.up {C : Addr} {H H' : Hp} {p : Addr} {ns : List Str} {bs : List Int} (e : Ext H H') : LanesAt C H p ns bs → LanesAt C H' p ns bs
  | ⟨dx, n, b, s, h1, h2, h3, h4, r⟩ => ⟨dx, n, b, s, e _ _ h1, e _ _ h2, e _ _ h3, e _ _ h4, r⟩
/-- what the text says of the class -/
structure LT (K : PySem.W.Frag) (mg : Str → Option Value) (C : Addr) : Prop where
  cl : Cls K C
  nN : NoAttr K C "_names"
  nB : NoAttr K C "_bounds"
  nS : NoAttr K C "_spots"
  gC : mg "Lanes" = some (.ref C)
  n_enum : mg "enumerate" = none
  n_zip : mg "zip" = none
abbrev cL (i : Nat) : Stmt := inClass (topS 26) i
section
variable {P : Program} {w : World} {K : PySem.W.Frag} {mg : Str → Option Value} {base : Heap} {C : Addr}
def bdOf (ps : List (Str × Int)) (x : Str) : Int := ((ps.find? fun p => decide (p.1 = x)).map (·.2)).getD 0
def spInit (C : Addr) : Sp := fun vs H Q _ => ∃ (H0 : Hp) (p dx a : Addr) (ps : List (Str × Int)), vs = [.ref p, .ref a] ∧ H0 p = none ∧ Ext H0 H ∧ H p = some (.ins C dx []) ∧ H0 a = some (.dK (kvI ps)) ∧
  ps ≠ [] ∧ ps.length ≤ 60 ∧ (∀ q ∈ ps, isNameS q.1 = true ∧ 1 ≤ q.2) ∧ (ps.map (·.1)).Nodup ∧
  ∀ H' ns, Ext H0 H' → ns.Perm (ps.map (·.1)) → sortedS ns = true → LanesAt C H' p ns (ns.map (bdOf ps)) → Q .non H'
theorem sc_init : FnScope ["self", "bounds", "name", "spot"] ["self", "bounds"] (defScope (cL 0)) := ⟨rfl, rfl, rfl, by decide +kernel, rfl, by decide +kernel, by decide +kernel⟩
theorem tyes' {σ : L2.St} {H : Hp} {Q : Bool → Hp → Prop} (h : Q true H) : tYes σ H Q := h
theorem range_getD {α β : Type} (h : α → β) (d : α) : ∀ l : List α, (List.range l.length).map (fun i => h (l.getD i d)) = l.map h
  | [] => rfl
  | a :: l => by
    rw [List.length_cons, List.range_succ_eq_map, List.map_cons, List.map_map, List.map_cons]
    congr 1
    exact range_getD h d l
theorem kvI_val {ps : List (Str × Int)} {x : Str} (h : x ∈ ps.map (·.1)) : valV (kvI ps) (.inr x) = some (.int (bdOf ps x)) := by
  induction ps with
  | nil => cases h
  | cons p ps ih =>
    unfold kvI bdOf
    rw [List.map_cons, List.find?_cons]
    by_cases c : p.1 = x
    · rw [valV_pos (by rw [c]), decide_eq_true c]
      rfl
    · rw [valV_neg (fun z => c (Sum.inr.inj z)), decide_eq_false c]
      rw [List.map_cons, List.mem_cons] at h
      exact ih (h.resolve_left fun z => c z.symm)
theorem bd_mem {ps : List (Str × Int)} {x : Str} (h : x ∈ ps.map (·.1)) : ∃ p ∈ ps, p.1 = x ∧ p.2 = bdOf ps x := by
  induction ps with
  | nil => cases h
  | cons p ps ih =>
    unfold bdOf
    rw [List.find?_cons]
    by_cases c : p.1 = x
    · rw [decide_eq_true c]
      exact ⟨p, List.mem_cons_self, c, rfl⟩
    · rw [decide_eq_false c]
      rw [List.map_cons, List.mem_cons] at h
      obtain ⟨r, h1, h2, h3⟩ := ih (h.resolve_left fun z => c z.symm)
      exact ⟨r, List.mem_cons_of_mem _ h1, h2, h3⟩
theorem ok_init {f : Addr} {fd : FuncData} (F : Fun K "__init__" "Lanes.__init__" (cL 0) f fd) (T : BT mg) (L : LT K mg C)
    (C5 : Ca P w K mg base 3 "is_bounds" ["thing"] spIsBounds) :
    FnOk P w K mg base CX0 4 f fd ["self", "bounds"] (spInit C) := by
  refine F.ok sc_init (fun vs H Q E h => ?_) (fun cdv A outer s H vs Q E hr h => ?_)
  · obtain ⟨H0, p, dx, a, ps, rfl, _⟩ := h
    rfl
  · obtain ⟨H0, p, dx, a, ps, rfl, hp0, e0, hp, ha, hne, hl, hps, hnd, q⟩ := h
    refine ⟨_, (pss_cons (ps_if (pt_not (pt_val (pe_ca C5 (hr.mono (by decide)) (by rfl) (pa_cons (pv 1) pa_nil)))) (pss_one ps_never) pss_nil)
      (pss_cons (ps_fld (pv 0) (pe_callTy call_tuple_of (by rfl) T.n_tuple (by decide +kernel) (pa_cons (pe_callB (call_sortedD rfl) (by rfl) T.n_sorted (by decide +kernel) (pa_cons (pv 1) pa_nil)) pa_nil)) rfl)
      (pss_cons (ps_fld (pv 0) (pe_callTy call_tuple_of (by rfl) T.n_tuple (by decide +kernel) (pa_cons (pe_lc (own := [("name", 2)]) (g := gName 2) (tt := tYes) rfl sc_init.nd (pi_tup (pe_fld (pv 0) rfl)) (blkOk_by (N := ["self", "bounds", "name", "spot"]) (sc := defScope (cL 0)) (by decide +kernel)) (fun _ _ _ _ _ => pg_name (i := 2) sc_init.nd rfl (.inl rfl)) (fun _ _ _ _ _ => pts_nil) (fun _ _ _ _ _ => pe_dget (hu_of hr) (pv 1) (pv 2) (fun _ _ => rfl))) pa_nil)) rfl)
      (pss_one (ps_fld (pv 0) (pe_dc (own := [("name", 2), ("spot", 3)]) (g := gTup K 2 (gCons (gName 3) (gCons (gName 2) gNil))) (tt := tYes) rfl sc_init.nd (pi_enumT (by rfl) L.n_enum (pa_cons (pe_fld (pv 0) rfl) pa_nil)) (blkOk_by (N := ["self", "bounds", "name", "spot"]) (sc := defScope (cL 0)) (by decide +kernel)) (fun _ _ _ _ _ => pg_tup (by rfl) (pgs_cons (pg_name (i := 3) sc_init.nd rfl (.inl rfl)) (pgs_cons (pg_name (i := 2) sc_init.nd rfl (.inl rfl)) pgs_nil))) (fun _ _ _ _ _ => pts_nil) (fun _ _ _ _ _ => pv 2) (fun _ _ _ _ _ => pv 3)) rfl))))), ?_⟩
    have kl : (kvI ps).map (·.1) = (ps.map (·.1)).map Sum.inr := by
      unfold kvI
      rw [List.map_map, List.map_map]
      rfl
    refine ⟨_, rfl, a, ps, rfl, e0 _ _ ha, hne, Nat.le_trans hl (by decide), hps, fun H1 e1 => ⟨_, rfl, ?_⟩⟩
    refine iteF ?_
    have e01 := e0.trans e1
    refine ⟨_, rfl, a, _, _, rfl, Rd.of (e01 _ _ ha), kl, (by rw [List.length_map]; omega), fun ns l hperm hso hl1 => ?_⟩
    have hx2 : H1 a = some (.dK (kvI ps)) := e01 _ _ ha
    have hpH : H1 p = some (.ins C dx []) := e1 _ _ hp
    have nd : ns.Nodup := hperm.nodup_iff.mpr hnd
    have len : ns.length = ps.length := by rw [hperm.length_eq, List.length_map]
    have el := Ext.new (o := .lst (ns.map V.str)) hl1
    refine ⟨l, _, rfl, .inl ⟨SqL.of upd_same, fun n hn => ?_⟩⟩
    have en := Ext.new (o := .tup (ns.map V.str)) hn
    refine ⟨_, rfl, p, C, dx, [], rfl, (el.trans en) _ _ hpH, L.cl, L.nN, (by show 0 < 1000; decide), ?_⟩
    rw [put1]
    have e4 : Ext H0 (upd (upd (upd H1 l (.lst (ns.map V.str))) n (.tup (ns.map V.str))) p (.ins C dx [("_names", .ref n)])) := Ext.mut (e01.trans (el.trans en)) hp0
    have npn : p ≠ n := fun z => by
      have := (el _ _ hpH)
      rw [z, hn] at this
      cases this
    have h4n : (upd (upd (upd H1 l (.lst (ns.map V.str))) n (.tup (ns.map V.str))) p (.ins C dx [("_names", .ref n)])) n = some (.tup (ns.map V.str)) := by
      rw [upd_ne (Ne.symm npn)]
      exact upd_same
    have h4p : (upd (upd (upd H1 l (.lst (ns.map V.str))) n (.tup (ns.map V.str))) p (.ins C dx [("_names", .ref n)])) p = some (.ins C dx [("_names", .ref n)]) := upd_same
    generalize hH4 : upd (upd (upd H1 l (.lst (ns.map V.str))) n (.tup (ns.map V.str))) p (.ins C dx [("_names", .ref n)]) = H4 at *
    refine ⟨_, rfl, p, C, dx, _, _, rfl, h4p, L.cl, L.nN, rfl, n, rfl, ⟨_, SqT.of h4n⟩, fun D hD => ?_⟩
    have nm : ∀ i, i < ns.length → ns.getD i Str.empty ∈ ps.map (·.1) := fun i hi => by
      rw [List.getD_eq_getElem?_getD, List.getElem?_eq_getElem hi]
      exact hperm.mem_iff.mp (List.getElem_mem hi)
    have ml : (ns.map V.str).length = ns.length := List.length_map ..
    refine lc_det (w := walk_tup (xs := ns.map V.str)) (fun i => V.str (ns.getD i Str.empty)) (fun _ => true) (fun i => V.int (bdOf ps (ns.getD i Str.empty))) hD (by rw [ml]; exact Nat.le_trans (by omega) (show 60 ≤ sizeLine by decide)) ?_ (fun H' e => SqT.of (e _ _ h4n)) (fun _ _ _ _ _ h => tyes' h) ?_ ?_
    · rintro i Hi x H' hi ⟨rfl, hx⟩
      refine ⟨rfl, ?_⟩
      rw [List.getElem?_map] at hx
      rw [ml] at hi
      rw [List.getElem?_eq_getElem hi] at hx
      rw [List.getD_eq_getElem?_getD, List.getElem?_eq_getElem hi]
      exact (Option.some.inj hx).symm
    · intro i Hi hi _ e Q' q'
      rw [ml] at hi
      have hai : Hi a = some (.dK (kvI ps)) := (e4.trans e) _ _ ha
      have g := DGet.k (k := .inr (ns.getD i Str.empty)) hai
      rw [kvI_val (nm i hi)] at g
      exact ⟨_, rfl, _, rfl, a, _, rfl, g, q'⟩
    have e5 := Ext.new (o := .lst ((ns.map (bdOf ps)).map V.int)) hD
    have mm : (((List.range (ns.map V.str).length).filter fun _ => true).map fun i => V.int (bdOf ps (ns.getD i Str.empty))) = (ns.map (bdOf ps)).map V.int := by
      rw [ml, List.filter_eq_self.mpr (fun _ _ => rfl), List.map_map]
      exact range_getD (V.int ∘ bdOf ps) Str.empty ns
    rw [mm]
    refine ⟨D, _, rfl, .inl ⟨SqL.of upd_same, fun b hb => ?_⟩⟩
    have e6 := Ext.new (o := .tup ((ns.map (bdOf ps)).map V.int)) hb
    have e46 := e5.trans e6
    refine ⟨_, rfl, p, C, dx, _, rfl, e46 _ _ h4p, L.cl, L.nB, (by show 1 < 1000; decide), ?_⟩
    rw [put2]
    have e7 := Ext.mut (o := .ins C dx [("_names", .ref n), ("_bounds", .ref b)]) (e4.trans e46) hp0
    have npb : p ≠ b := fun z => by
      have := e5 _ _ h4p
      rw [z, hb] at this
      cases this
    have h7n : (upd (upd (upd H4 D (.lst ((ns.map (bdOf ps)).map V.int))) b (.tup ((ns.map (bdOf ps)).map V.int))) p (.ins C dx [("_names", .ref n), ("_bounds", .ref b)])) n = some (.tup (ns.map V.str)) := by
      rw [upd_ne (Ne.symm npn)]
      exact e46 _ _ h4n
    have h7b : (upd (upd (upd H4 D (.lst ((ns.map (bdOf ps)).map V.int))) b (.tup ((ns.map (bdOf ps)).map V.int))) p (.ins C dx [("_names", .ref n), ("_bounds", .ref b)])) b = some (.tup ((ns.map (bdOf ps)).map V.int)) := by
      rw [upd_ne (Ne.symm npb)]
      exact upd_same
    have h7p : (upd (upd (upd H4 D (.lst ((ns.map (bdOf ps)).map V.int))) b (.tup ((ns.map (bdOf ps)).map V.int))) p (.ins C dx [("_names", .ref n), ("_bounds", .ref b)])) p = some (.ins C dx [("_names", .ref n), ("_bounds", .ref b)]) := upd_same
    generalize upd (upd (upd H4 D (.lst ((ns.map (bdOf ps)).map V.int))) b (.tup ((ns.map (bdOf ps)).map V.int))) p (.ins C dx [("_names", .ref n), ("_bounds", .ref b)]) = H7 at *
    refine ⟨_, rfl, p, C, dx, _, _, rfl, h7p, L.cl, L.nN, rfl, n, _, rfl, SqT.of h7n, fun D2 hD2 => ?_⟩
    refine dc_it (w := walk_enumT (xs := ns.map V.str)) (fun i Hi => Ext H7 Hi ∧ Hi D2 = some (.dK (spots (ns.take i)))) ⟨Ext.new hD2, upd_same⟩ (fun i Hi _ h => SqT.of (h.1 _ _ h7n)) ?_ ?_
    · rintro i v Hi H' hi ⟨ei, hdi⟩ ⟨T', y1, y2, rfl, hT, rfl, g1, g2⟩
      rw [ml] at hi
      cases g1
      dsimp only at g2
      rw [List.getElem?_map, List.getElem?_eq_getElem hi] at g2
      cases g2
      have eT := Ext.new (o := .tup [.int (i : Int), .str ns[i]]) hT
      refine ⟨T', _, rfl, SqT.of upd_same, rfl, _, _, rfl, _, _, rfl, rfl, rfl, ?_⟩
      refine tyes ?_
      have hns : ns[i] ∉ ns.take i := fun z => by
        obtain ⟨j, hj, ej⟩ := List.getElem_of_mem z
        rw [List.length_take] at hj
        rw [List.getElem_take] at ej
        exact List.pairwise_iff_getElem.mp nd j i (by omega) hi (by omega) ej
      refine ⟨_, rfl, _, rfl, spots (ns.take i), .inr ns[i], rfl, eT _ _ hdi, ?_, Ext.mut (ei.trans eT) hD2, ?_⟩
      · rw [spots_len, List.length_take]
        exact Nat.lt_of_le_of_lt (show _ ≤ 60 by omega) (by decide)
      · rw [upd_same, putK_new (spots_none hns), List.take_add_one, List.getElem?_eq_getElem hi]
        show _ = some (HO.dK (spots (ns.take i ++ [ns[i]])))
        rw [spots_snoc, List.length_take, Nat.min_eq_left (Nat.le_of_lt hi)]
    · rintro H8 ⟨e8, h8d⟩
      rw [ml, List.take_length] at h8d
      refine ⟨_, rfl, p, C, dx, _, rfl, e8 _ _ h7p, L.cl, L.nS, (by show 2 < 1000; decide), ?_⟩
      rw [put3]
      have npD : p ≠ D2 := fun z => by rw [← z, h7p] at hD2; cases hD2
      refine q _ ns (Ext.mut (e7.trans e8) hp0) hperm hso ⟨dx, n, b, D2, upd_same, ?_, ?_, ?_, List.length_map .., nd, by omega, ?_, ?_⟩
      · rw [upd_ne (Ne.symm npn)]; exact e8 _ _ h7n
      · rw [upd_ne (Ne.symm npb)]; exact e8 _ _ h7b
      · rw [upd_ne (Ne.symm npD)]; exact h8d
      · intro x hx
        obtain ⟨r, hr1, hr2, _⟩ := bd_mem (hperm.mem_iff.mp hx)
        rw [← hr2]
        exact (hps r hr1).1
      · intro i hi
        obtain ⟨x, hx, rfl⟩ := List.mem_map.mp hi
        obtain ⟨r, hr1, _, hr3⟩ := bd_mem (hperm.mem_iff.mp hx)
        rw [← hr3]
        exact (hps r hr1).2
end
end K28

set_option Elab.async false
set_option linter.all false
set_option maxRecDepth 100000
set_option maxHeartbeats 4000000
namespace Ol
open PySem PySem.Spec PyProof.Rows L2

/-- a method of class C and its promise -/
structure Cm (P : Program) (w : World) (K : PySem.W.Frag) (mg : Str → Option Value) (base : Heap)
    (C : Addr) (k : Nat) (m : Str) (ps : List Str) (sp : Sp) : Prop where
  has : ∃ (f : Addr) (fd : FuncData), FnOk P w K mg base CX0 k f fd ps sp ∧ Meth K C m f ∧ Binds K fd ps []
section
variable {X : Cx} {k : Nat} {C : Addr} {ps : List Str} {sp : Sp} {m : Str} {o e : Expr} {es : List Expr} {ta : TE} {t : TA} {apos pos : Pos}
theorem pe_cm {pl : Sem Bool} (M : Cm X.prog X.w X.K X.mg X.base C k m ps sp) (c : Cls X.K C) (hr : Room k X.A) (he : PE X o ta) (ha : PA X (e :: es) t)
    (hst : starEach (e :: es) X.env = (false, eval e X.env) :: starEach es X.env := by rfl) (hpl : (backTo pos (starEach es X.env)).any (·.1) = false := by rfl)
    (ht : eval (.Call (.Attribute o m apos) (e :: es) [] pos) X.env = (do
      let ov ← eval o X.env
      standAt apos.atName
      let (f, first) ← holding [ov] (getMethod ov m pl)
      callWith pos f first (backTo pos (starEach (e :: es) X.env)) (backToKw pos (keywordEach [] X.env))) := by rfl) :
    PE X (.Call (.Attribute o m apos) (e :: es) [] pos) (tMeth C m sp [] E0 ta t) := by
  obtain ⟨f, fd, F, hm, b⟩ := M.has
  exact pe_meth he c hm F hr b .nil pass0 ha hst hpl ht
theorem op_notInM (M : Cm X.prog X.w X.K X.mg X.base C k "__contains__" ps sp) (hr : Room k X.A) : OpR X (compareOp .NotIn) (rNotInO C sp) := by
  obtain ⟨f, fd, F, hm, b⟩ := M.has
  exact op_notInO F hr hm.at_ hm.fn b
end

/-! ### t * 1 -/
theorem tuple_mul1 (l : Addr) (items : Array Value) (n : Nat) (dd : Option Addr) (sl : Array (Option Value)) (u : Tok) (hi : items.isEmpty = false) :
    Meets (Builtin.«tuple.__mul__» ⟨[.ref l, .int 1 u], []⟩) (fun _ R s => s.heap.get? l = some { cls := .type "tuple", dict := dd, data := .seq items n, slots := sl } ∧
      R (.ok (.ret (Value.ref l))) s) :=
  .of_wp fun prog w A R s h => by
    obtain ⟨hp, g, d, tk, os⟩ := s
    obtain ⟨hl, h⟩ := h
    have f1 := AutoSeq1.idx_int
    wp_walk using wpAny_loadPart' hl
    exact ⟨_, rfl, h⟩
/-- t * k, 1 ≤ k -/
def rRepA (K : PySem.W.Frag) : R2 := fun x y H Q => ∃ l k xs, x = .ref l ∧ y = .int k ∧ SqT K H l xs ∧ xs ≠ [] ∧ 1 ≤ k ∧ k ≤ 1000 ∧ xs.length ≤ 1000 ∧
  (k = 1 → Q (.ref l) H) ∧ (2 ≤ k → ∀ p, H p = none → Q (.ref p) (upd H p (.tup (List.replicate k.toNat xs).flatten)))
theorem op_repA {X : Cx} : OpR X (binaryOp .Mult) (rRepA X.K) := by
  intro pins s σ H x y v u Q I rx ry h
  obtain ⟨l, k, xs, ex, ey, hT, hne, h1, h2, hz, q1, q2⟩ := h
  by_cases hk : 2 ≤ k
  · exact op_repT pins s σ H x y v u Q I rx ry ⟨l, k, xs, ex, ey, hT, hne, hk, h2, hz, q2 hk⟩
  · have e1 : k = 1 := by omega
    subst ex ey e1
    cases rx
    obtain ⟨t, rfl⟩ := ry
    obtain ⟨its, r, ⟨⟨cls, dd, data, sl⟩, ho, hc, n, hd⟩, hs⟩ := I.tuple hT
    simp only at hc hd
    subst hc hd
    have hle : its.length = xs.length := r.length.symm
    have hn : its ≠ [] := fun e => hne (by
      rw [e] at hle
      exact List.eq_nil_of_length_eq_zero hle.symm)
    have hi : its.toArray.isEmpty = false := by
      cases its with
      | nil => exact absurd rfl hn
      | cons a b => rfl
    exact wpAny_binaryOp_repeat_ref (T := "tuple") (U := "int") (by decide) ⟨_, ho, rfl⟩ (fun s' => typeIs_int s' 1 t) noFill_tuple_mul F.fills_int_mul F.slot_int_rmul repeat_tuple F.slot_int_index.lookup
      (call_meets F.slot_int_rmul (typeIs_int s 1 t) F.entry_int_rmul (F.args_int_rmul_2 _ _) (int_rmul_tuple 1 t l its.toArray n dd sl)
        ⟨ho, rfl, ⟨_, ho, rfl⟩, call_meets F.slot_tuple_mul ⟨_, ho, rfl⟩ F.entry_tuple_mul (F.args_tuple_mul_2 _ _) (tuple_mul1 l its.toArray n dd sl t hi) ⟨ho, .ref l, H, I, rfl, q1 rfl⟩⟩)
end Ol

set_option Elab.async false
set_option linter.all false
set_option maxRecDepth 100000
set_option maxHeartbeats 4000000
namespace K28
open PySem PySem.Spec PyProof.Rows L2 Ol
open TL (tl)
theorem DqAll_get {H : Hp} : ∀ {xs : List V} {ds : List PyData}, DqAll H xs ds → ∀ (i : Nat) (d : PyData), ds[i]? = some d → ∃ v, xs[i]? = some v ∧ Dq H v d
  | _, _, .nil, i, d, h => by simp at h
  | _, _, .cons a t, 0, d, h => by
    cases h
    exact ⟨_, rfl, a⟩
  | _, _, .cons a t, i + 1, d, h => DqAll_get t i d h
theorem DqAll_set {H : Hp} : ∀ {xs : List V} {ds : List PyData}, DqAll H xs ds → ∀ (i : Nat) (v : V) (d : PyData), Dq H v d → DqAll H (xs.set i v) (ds.set i d)
  | _, _, .nil, i, v, d, h => .nil
  | _, _, .cons a t, 0, v, d, h => .cons h t
  | _, _, .cons a t, i + 1, v, d, h => .cons a (DqAll_set t i v d h)
/-- a content, as data -/
def ctL (cs : List (Nat × Bool)) : List PyData := cs.map fun s => stD s.1 s.2
def ctD (cs : List (Nat × Bool)) : PyData := .tuple (ctL cs)
theorem ct_inv {H : Hp} {v : V} {cs : List (Nat × Bool)} (h : Dq H v (ctD cs)) : ∃ a xs, v = .ref a ∧ H a = some (.tup xs) ∧ DqAll H xs (ctL cs) ∧ xs.length = cs.length := by
  obtain ⟨a, xs, ds, rfl, e, h1, h2⟩ := dq_tup h rfl
  unfold ctD at e
  cases e
  exact ⟨a, xs, rfl, h1, h2, by rw [h2.len]; unfold ctL; rw [List.length_map]⟩
section
variable {P : Program} {w : World} {K : PySem.W.Frag} {mg : Str → Option Value} {base : Heap} {C : Addr}
/-! ### thing in lanes -/
def spHas (C : Addr) : Sp := fun vs H Q _ => ∃ (p : Addr) (ns : List Str) (bs : List Int) (x : Str), vs = [.ref p, .str x] ∧ LanesAt C H p ns bs ∧ isNameS x = true ∧
  ∀ H', Ext H H' → Q (.bl (decide (x ∈ ns))) H'
theorem sc_has : FnScope ["self", "thing"] ["self", "thing"] (defScope (cL 4)) := ⟨rfl, rfl, rfl, by decide +kernel, rfl, by decide +kernel, by decide +kernel⟩
theorem spots_mem {ns : List Str} (hd : ns.Nodup) (x : Str) : (valV (spots ns) (.inr x)).isSome = decide (x ∈ ns) := by
  by_cases h : x ∈ ns
  · obtain ⟨i, hi, e⟩ := List.getElem_of_mem h
    rw [decide_eq_true h, ← e, spots_val hd hi]
    rfl
  · rw [decide_eq_false h, spots_none h]
    rfl
theorem ok_has {f : Addr} {fd : FuncData} (F : Fun K "__contains__" "Lanes.__contains__" (cL 4) f fd) (T : BT mg) (L : LT K mg C) :
    FnOk P w K mg base CX0 2 f fd ["self", "thing"] (spHas C) := by
  refine F.ok sc_has (fun vs H Q E h => ?_) (fun cdv A outer s H vs Q E hr h => ?_)
  · obtain ⟨p, ns, bs, x, rfl, _⟩ := h
    rfl
  · obtain ⟨p, ns, bs, x, rfl, hL, hx, q⟩ := h
    refine ⟨_, (pss_one (ps_ret (pe_and (pe_callB call_isi (by rfl) T.n_isinstance (by decide +kernel) (pa_cons (pv 1) (pa_cons (pe_bltn (v := .ty "str") (by rfl) T.n_str (by decide +kernel) rfl) pa_nil))) (pe_one (pe_cmp (pc_din (hu_of hr) (pv 1) (pe_fld (pv 0) rfl)) rfl))))), ?_⟩
    obtain ⟨dx, n, b, sp, h1, h2, h3, h4, _, hnd, _⟩ := id hL
    refine ⟨_, rfl, _, _, _, _, _, rfl, .ty "str", ty_of (.str x), ki_str (.str x), _, rfl, ?_⟩
    refine ite2 (fun _ => ?_) (fun g => absurd rfl g)
    refine ⟨_, rfl, _, rfl, p, C, dx, _, _, rfl, h1, L.cl, L.nS, lf_s _ _ _, sp, _, rfl, DGet.k (k := Sum.inr x) h4, ?_⟩
    rw [spots_mem hnd]
    exact q _ (Ext.refl H)
end
theorem dec_word {a b : Str} : decide (V.str a = V.str b) = true ↔ a = b := by
  rw [decide_eq_true_eq]
  exact ⟨fun h => by injection h, fun h => by rw [h]⟩
end K28

set_option Elab.async false
set_option linter.all false
set_option maxRecDepth 100000
set_option maxHeartbeats 4000000
namespace K28
open PySem PySem.Spec PyProof.Rows L2 Ol
open TL (tl)
-- a
section
variable {P : Program} {w : World} {K : PySem.W.Frag} {mg : Str → Option Value} {base : Heap}
abbrev s__law_take : Stmt := (topS 39)
theorem sc__law_take : FnScope ["_law_bag_here", "_law_many", "_law_cell", "_law_mixed", "_law_value", "_law_begin", "_law_second"] ["_law_bag_here", "_law_many"] (defScope s__law_take) := ⟨rfl, rfl, rfl, by decide +kernel, rfl, by decide +kernel, by decide +kernel⟩

theorem pos_of {j : Int} (h : 0 < j) : 0 < j := h
theorem upd_self {H : Hp} {a : Addr} {o : HO} (h : H a = some o) : upd H a o = H := by
  funext b
  by_cases z : b = a
  · rw [z, upd_same, h]
  · rw [upd_ne z]
theorem ok_take {f : Addr} {fd : FuncData} (F : Fun K "_law_take" "_law_take" s__law_take f fd) (T : BT mg) :
    FnOk P w K mg base CX0 1 f fd ["_law_bag_here", "_law_many"] spTake0 := by
  refine F.ok sc__law_take (fun vs H Q E h => ?_) (fun cdv A outer s H vs Q E hr h => ?_)
  · obtain ⟨a, c, b0, b1, b2, ns, m, rfl, _⟩ := h
    rfl
  · obtain ⟨a, c, b0, b1, b2, ns, m, rfl, ha, hc, hns, bi, hm, hm2, q⟩ := h
    have hca : c ≠ a := by
      intro z
      rw [z, ha] at hc
      have e : bagL b0 b1 b2 c = ns.map V.int := by
        injection hc with hc
        injection hc
      have e3 : (bagL b0 b1 b2 c)[3]? = (ns.map V.int)[3]? := by rw [e]
      rw [List.getElem?_map] at e3
      have e4 : some (V.ref c) = (ns[3]?).map V.int := e3
      cases q3 : ns[3]? with
      | none =>
        rw [q3] at e4
        cases e4
      | some z3 =>
        rw [q3] at e4
        cases e4
    refine cutB (fun σ H' => ∃ x0 x1 x2 v2 v3, BagI x0 x1 x2 ∧ σ = [some (.ref a), some (.int m), v2, v3, none, none, none] ∧ H' = upd H a (.lst (bagL x0 x1 x2 c)))
      ⟨_, (pss_cons (ps_if (pt_cmpR op_gt (pe_ix ix_list (pv 0) pe_int (fun _ _ => rfl)) pe_int (nomark _))
      (pss_cons (ps_set (i := 4) sc__law_take.nd rfl (.inl rfl) (pe_op op_mod (pe_callTy call_int1 (by rfl) T.n_int (by decide +kernel) (pa_cons (pe_ix ix_list (pv 0) pe_int (fun _ _ => rfl)) pa_nil)) (pv 1)))
      (pss_cons (ps_asg (pe_op op_fdiv (pe_ix ix_list (pv 0) pe_int (fun _ _ => rfl)) (pv 1)) (pg_sub (pv 0) pe_int set_list))
      (pss_one (ps_ret (pv 4)))))
      pss_nil)
    (pss_cons (ps_set (i := 5) sc__law_take.nd rfl (.inl rfl) (pe_op op_mod (pe_callTy call_int1 (by rfl) T.n_int (by decide +kernel) (pa_cons (pe_op op_mul (pe_op op_add (pe_ix ix_list (pv 0) pe_int (fun _ _ => rfl)) pe_int) pe_int) pa_nil)) pe_int))
    (pss_cons (ps_set (i := 6) sc__law_take.nd rfl (.inl rfl) (pe_op op_mod (pe_callTy call_int1 (by rfl) T.n_int (by decide +kernel) (pa_cons (pe_op op_mul (pe_op op_mod (pe_callTy call_int1 (by rfl) T.n_int (by decide +kernel) (pa_cons (pe_op op_mul (pv 5) (pv 5)) pa_nil)) pe_int) pe_int) pa_nil)) pe_int))
    (pss_cons (ps_if (pt_cmpR op_gt (pv 1) pe_int (nomark _))
      (pss_one (ps_ret (pe_op op_mod (pe_callTy call_int1 (by rfl) T.n_int (by decide +kernel) (pa_cons (pe_op op_add (pe_op op_mul (pv 6) pe_int) (pv 5)) pa_nil)) (pv 1))))
      pss_nil)
    (pss_one (ps_ret (pe_op op_mod (pe_callTy call_int1 (by rfl) T.n_int (by decide +kernel) (pa_cons (pe_op op_fdiv (pv 6) pe_int) pa_nil)) (pv 1)))))))), ?_⟩
      ⟨_, (ps_if (pt_cmpR op_eq (pe_ix ix_list (pv 0) pe_int (fun _ _ => rfl)) pe_int (nomark _))
      (pss_cons (ps_set (i := 2) sc__law_take.nd rfl (.inl rfl) pe_int)
      (pss_cons (ps_if (pt_cmpR op_lt (pe_ix ix_list (pv 0) pe_int (fun _ _ => rfl)) (pe_callB call_len_seq (by rfl) T.n_len (by decide +kernel) (pa_cons (pe_ix ix_list (pv 0) pe_int (fun _ _ => rfl)) pa_nil)) (nomark _))
        (pss_one (ps_set (i := 2) sc__law_take.nd rfl (.inl rfl) (pe_ix ix_list (pe_ix ix_list (pv 0) pe_int (fun _ _ => rfl)) (pe_ix ix_list (pv 0) pe_int (fun _ _ => rfl)) (fun _ _ => rfl))))
        pss_nil)
      (pss_cons (ps_augS (pv 0) pe_int get_list pe_int ip_add set_list)
      (pss_cons (ps_if (pt_cmpR op_ge (pv 2) pe_int (nomark _))
        (pss_one (ps_asg (pv 2) (pg_sub (pv 0) pe_int set_list)))
        pss_nil)
      (pss_cons (ps_set (i := 3) sc__law_take.nd rfl (.inl rfl) (pe_op op_add (pe_op op_add (pe_op op_mul (pe_ix ix_list (pv 0) pe_int (fun _ _ => rfl)) pe_int) (pe_op op_mod (pe_callTy call_int1 (by rfl) T.n_int (by decide +kernel) (pa_cons (pv 2) pa_nil)) pe_int)) (pe_op op_mul pe_int (pe_ix ix_list (pv 0) pe_int (fun _ _ => rfl)))))
      (pss_one (ps_asg (pe_op op_mod (pe_callTy call_int1 (by rfl) T.n_int (by decide +kernel) (pa_cons (pv 3) pa_nil)) pe_int) (pg_sub (pv 0) pe_int set_list))))))))
      pss_nil), fun nx hn => ?_⟩
    · rintro σ H' ⟨x0, x1, x2, v2, v3, xi, rfl, rfl⟩
      have hL : SqL K (upd H a (.lst (bagL x0 x1 x2 c))) a (bagL x0 x1 x2 c) := SqL.of upd_same
      have p0 := xi.h0
      have p1 := xi.h1
      have p1' := xi.h1'
      -- if bag[0] > 0
      refine ⟨_, rfl, a, _, _, _, rfl, rfl, hL, rfl, _, _, rfl, rfl, _, rfl, ?_⟩
      refine ite2 (fun h0 => ?_) (fun h0 => ?_)
      · refine ⟨_, rfl, a, _, _, _, rfl, rfl, hL, rfl, .inl ⟨_, rfl, _, rfl, _, _, rfl, rfl, hm, ?_⟩⟩
        refine ⟨_, rfl, a, _, _, _, rfl, rfl, hL, rfl, _, rfl, _, _, rfl, rfl, ⟨hm, hm2⟩, _, rfl, a, _, _, 0, rfl, rfl, upd_same, rfl, ?_⟩
        refine ⟨_, rfl, ?_⟩
        have z := q (x0 % m) (x0 / m) x1 x2 (Int.emod_nonneg _ (by omega)) (Int.emod_lt_of_pos _ hm) ⟨Int.ediv_nonneg p0 (by omega), xi.h1, xi.h1', xi.h2⟩
        have e : upd (upd H a (.lst (bagL x0 x1 x2 c))) a (.lst ((bagL x0 x1 x2 c).set 0 (.int (x0 / m)))) = upd H a (.lst (bagL (x0 / m) x1 x2 c)) := upd_upd
        rw [e]
        exact z
      · -- begin, second
        refine ⟨_, rfl, a, _, _, _, rfl, rfl, hL, rfl, _, _, rfl, rfl, _, _, rfl, rfl, .inl ⟨by omega, by omega⟩, .inl ⟨_, rfl, _, _, rfl, rfl, pos_of (by decide), ?_⟩⟩
        have g1 : 0 ≤ ((x1 + 1) * 39373) % 1000000007 := Int.emod_nonneg _ (by decide)
        have g2 : ((x1 + 1) * 39373) % 1000000007 < 1000000007 := Int.emod_lt_of_pos _ (by decide)
        generalize ((x1 + 1) * 39373) % 1000000007 = bg at g1 g2 ⊢
        refine ⟨_, rfl, _, rfl, _, _, rfl, rfl, .inl ⟨by omega, by omega⟩, .inl ⟨_, rfl, _, _, rfl, rfl, pos_of (by decide), ?_⟩⟩
        have g3 : 0 ≤ (bg * bg) % 998244353 := Int.emod_nonneg _ (by decide)
        have g4 : (bg * bg) % 998244353 < 998244353 := Int.emod_lt_of_pos _ (by decide)
        generalize (bg * bg) % 998244353 = sq at g3 g4 ⊢
        refine ⟨_, _, rfl, rfl, .inl ⟨by omega, by omega⟩, .inl ⟨_, rfl, _, _, rfl, rfl, pos_of (by decide), ?_⟩⟩
        have g5 : 0 ≤ (sq * 30011) % 998244353 := Int.emod_nonneg _ (by decide)
        have g6 : (sq * 30011) % 998244353 < 998244353 := Int.emod_lt_of_pos _ (by decide)
        generalize (sq * 30011) % 998244353 = sc at g5 g6 ⊢
        refine ⟨_, rfl, _, _, rfl, rfl, _, rfl, ?_⟩
        refine ite2 (fun h1 => ?_) (fun h1 => ?_)
        · refine ⟨_, rfl, _, _, rfl, rfl, .inl ⟨by omega, by omega⟩, _, rfl, _, _, rfl, rfl, .inl ⟨_, rfl, _, rfl, _, _, rfl, rfl, hm, ?_⟩⟩
          exact q _ x0 x1 x2 (Int.emod_nonneg _ (by omega)) (Int.emod_lt_of_pos _ hm) xi
        · refine ⟨_, rfl, _, _, rfl, rfl, ⟨by decide, by decide⟩, .inl ⟨_, rfl, _, rfl, _, _, rfl, rfl, hm, ?_⟩⟩
          exact q _ x0 x1 x2 (Int.emod_nonneg _ (by omega)) (Int.emod_lt_of_pos _ hm) xi
    · -- the cell
      have sa : SqL K H a (bagL b0 b1 b2 c) := SqL.of ha
      have p1 := bi.h1
      have p1' := bi.h1'
      have p2 := bi.h2
      refine ⟨_, rfl, a, _, _, _, rfl, rfl, sa, rfl, rfl, _, rfl, ?_⟩
      refine ite2 (fun h0 => ?_) (fun h0 => ?_)
      · refine ⟨_, rfl, a, _, _, _, rfl, rfl, sa, rfl, _, rfl, a, _, _, _, rfl, rfl, sa, rfl, c, _, rfl, .inl (SqL.of hc), _, _, rfl, rfl, _, rfl, ?_⟩
        refine ite2 (fun h1 => ?_) (fun h1 => ?_)
        · have h1' : b2 < (ns.length : Int) := by
            have z := of_decide_eq_true h1
            rwa [List.length_map] at z
          obtain ⟨j, ej⟩ : ∃ j : Nat, b2 = (j : Int) := ⟨b2.toNat, by omega⟩
          have hj : j < ns.length := by omega
          have hz : 0 ≤ ns[j] := hns _ (List.getElem_mem hj)
          refine ⟨_, rfl, a, _, _, _, rfl, rfl, sa, rfl, _, rfl, a, _, _, _, rfl, rfl, sa, rfl, c, _, _, V.int ns[j], rfl, rfl, SqL.of hc, at_of (j := j) ej (by rw [List.getElem?_map, List.getElem?_eq_getElem hj]; rfl), ?_⟩
          refine ⟨_, rfl, a, _, 2, _, rfl, rfl, sa, rfl, _, _, rfl, rfl, a, _, _, 2, rfl, rfl, ha, rfl, ?_⟩
          refine ⟨_, rfl, _, _, rfl, rfl, _, rfl, ?_⟩
          refine ite2 (fun h2 => ?_) (fun h2 => ?_)
          · refine ⟨_, rfl, _, rfl, a, _, _, 0, rfl, rfl, upd_same, rfl, ?_⟩
            refine ⟨_, rfl, a, _, _, _, rfl, rfl, SqL.of upd_same, rfl, _, _, rfl, rfl, .inl ⟨by omega, by omega⟩, _, rfl, .inl ⟨_, rfl, _, _, rfl, rfl, pos_of (by decide), _, _, rfl, rfl, _, rfl, a, _, _, _, rfl, rfl, SqL.of upd_same, rfl, _, _, rfl, rfl, .inl ⟨by decide, by decide⟩, _, _, rfl, rfl, ?_⟩⟩
            refine ⟨_, rfl, .inl ⟨_, rfl, _, _, rfl, rfl, pos_of (by decide), _, rfl, a, _, _, 1, rfl, rfl, upd_same, rfl, ?_⟩⟩
            exact hn _ _ ⟨_, _, b2 + 1, _, _, ⟨hz, Int.emod_nonneg _ (by decide), Int.emod_lt_of_pos _ (by decide), by omega⟩, rfl, by rw [upd_upd, upd_upd]; rfl⟩
          · refine ⟨_, rfl, a, _, _, _, rfl, rfl, SqL.of upd_same, rfl, _, _, rfl, rfl, .inl ⟨by omega, by omega⟩, _, rfl, .inl ⟨_, rfl, _, _, rfl, rfl, pos_of (by decide), _, _, rfl, rfl, _, rfl, a, _, _, _, rfl, rfl, SqL.of upd_same, rfl, _, _, rfl, rfl, .inl ⟨by decide, by decide⟩, _, _, rfl, rfl, ?_⟩⟩
            refine ⟨_, rfl, .inl ⟨_, rfl, _, _, rfl, rfl, pos_of (by decide), _, rfl, a, _, _, 1, rfl, rfl, upd_same, rfl, ?_⟩⟩
            exact hn _ _ ⟨_, _, b2 + 1, _, _, ⟨bi.h0, Int.emod_nonneg _ (by decide), Int.emod_lt_of_pos _ (by decide), by omega⟩, rfl, by rw [upd_upd]; rfl⟩
        · refine ⟨_, rfl, a, _, 2, _, rfl, rfl, sa, rfl, _, _, rfl, rfl, a, _, _, 2, rfl, rfl, ha, rfl, ?_⟩
          refine ⟨_, rfl, _, _, rfl, rfl, _, rfl, ?_⟩
          refine ite2 (fun h2 => ?_) (fun h2 => ?_)
          · exact absurd (of_decide_eq_true h2) (by decide)
          · refine ⟨_, rfl, a, _, _, _, rfl, rfl, SqL.of upd_same, rfl, _, _, rfl, rfl, .inl ⟨by omega, by omega⟩, _, rfl, .inl ⟨_, rfl, _, _, rfl, rfl, pos_of (by decide), _, _, rfl, rfl, _, rfl, a, _, _, _, rfl, rfl, SqL.of upd_same, rfl, _, _, rfl, rfl, .inl ⟨by decide, by decide⟩, _, _, rfl, rfl, ?_⟩⟩
            refine ⟨_, rfl, .inl ⟨_, rfl, _, _, rfl, rfl, pos_of (by decide), _, rfl, a, _, _, 1, rfl, rfl, upd_same, rfl, ?_⟩⟩
            exact hn _ _ ⟨_, _, b2 + 1, _, _, ⟨bi.h0, Int.emod_nonneg _ (by decide), Int.emod_lt_of_pos _ (by decide), by omega⟩, rfl, by rw [upd_upd]; rfl⟩
      · exact hn _ _ ⟨b0, b1, b2, none, none, bi, rfl, (upd_self ha).symm⟩
end

-- b
section
variable {P : Program} {w : World} {K : PySem.W.Frag} {mg : Str → Option Value} {base : Heap}

abbrev s_is_integer : Stmt := (topS 15)
theorem sc_is_integer : FnScope ["thing"] ["thing"] (defScope s_is_integer) := ⟨rfl, rfl, rfl, by decide +kernel, rfl, by decide +kernel, by decide +kernel⟩
theorem ok_is_integer {f : Addr} {fd : FuncData} (F : Fun K "is_integer" "is_integer" s_is_integer f fd) (T : BT mg) :
    FnOk P w K mg base CX0 1 f fd ["thing"] (spPred Any isIntD) := by
  refine F.ok sc_is_integer (fun vs H Q E h => ?_) (fun cdv A outer s H vs Q E hr h => ?_)
  · obtain ⟨v, d, rfl, _⟩ := h
    rfl
  · obtain ⟨v, d, rfl, hd, hz, q⟩ := h
    have q' := q H (Ext.refl H)
    rw [isIntD_eq] at q'
    refine ⟨_, (pss_one (ps_ret (pe_and (pe_callB call_isi (by rfl) T.n_isinstance (by decide +kernel) (pa_cons (pv 0) (pa_cons (pe_bltn (v := .ty "int") (by rfl) T.n_int (by decide +kernel) rfl) pa_nil))) (pe_one (pe_not (pe_callB call_isi (by rfl) T.n_isinstance (by decide +kernel) (pa_cons (pv 0) (pa_cons (pe_bltn (v := .ty "bool") (by rfl) T.n_bool (by decide +kernel) rfl) pa_nil)))))))), ?_⟩
    refine ⟨_, rfl, _, _, _, _, _, rfl, .ty "int", ty_of hd, ki_int d, _, rfl, ?_⟩
    refine ite2 (fun h => ?_) (fun h => ?_)
    · refine ⟨_, rfl, _, _, _, _, _, rfl, .ty "bool", ty_of hd, ki_bool d, _, rfl, ?_⟩
      rw [h, Bool.true_and] at q'
      exact q'
    · rw [Bool.eq_false_iff.mpr h, Bool.false_and] at q'
      exact q'

abbrev s_is_number : Stmt := (topS 16)
theorem sc_is_number : FnScope ["thing"] ["thing"] (defScope s_is_number) := ⟨rfl, rfl, rfl, by decide +kernel, rfl, by decide +kernel, by decide +kernel⟩
theorem ok_is_number {f : Addr} {fd : FuncData} (F : Fun K "is_number" "is_number" s_is_number f fd) (C1 : Ca P w K mg base 1 "is_integer" ["thing"] (spPred Any isIntD)) :
    FnOk P w K mg base CX0 2 f fd ["thing"] (spPred Any isNumD) := by
  refine F.ok sc_is_number (fun vs H Q E h => ?_) (fun cdv A outer s H vs Q E hr h => ?_)
  · obtain ⟨v, d, rfl, _⟩ := h
    rfl
  · obtain ⟨v, d, rfl, hd, hz, q⟩ := h
    refine ⟨_, (pss_one (ps_ret (pe_and (pe_ca C1 (hr.mono (by decide)) (by rfl) (pa_cons (pv 0) pa_nil)) (pe_one (pe_cmpR op_ge (pv 0) pe_int (nomark _)))))), ?_⟩
    refine ⟨_, rfl, v, d, rfl, hd, trivial, fun H1 e1 => ⟨_, rfl, ?_⟩⟩
    refine ite2 (fun h => ?_) (fun h => ?_)
    · obtain ⟨i, rfl, rfl⟩ := dq_int hd h
      refine ⟨_, rfl, _, _, rfl, rfl, ?_⟩
      exact q H1 e1
    · have e : isNumD d = false := by
        cases d with
        | int i => exact absurd rfl h
        | _ => rfl
      have q' := q H1 e1
      rw [e] at q'
      exact q'

abbrev s_is_name : Stmt := (topS 17)
theorem sc_is_name : FnScope ["thing", "letter"] ["thing"] (defScope s_is_name) := ⟨rfl, rfl, rfl, by decide +kernel, rfl, by decide +kernel, by decide +kernel⟩
theorem ok_is_name {f : Addr} {fd : FuncData} (F : Fun K "is_name" "is_name" s_is_name f fd) (T : BT mg) {tl : Tok} {tn : Tok} (gLet : mg "LETTERS" = some (.str abc tl)) (gLong : mg "LONGEST" = some (.int 8 tn)) :
    FnOk P w K mg base CX0 1 f fd ["thing"] (spPred Ok1 isNameD) := by
  refine F.ok sc_is_name (fun vs H Q E h => ?_) (fun cdv A outer s H vs Q E hr h => ?_)
  · obtain ⟨v, d, rfl, _⟩ := h
    rfl
  · obtain ⟨v, d, rfl, hd, hz, q⟩ := h
    refine ⟨_, (pss_cons (ps_if (PW.pt (pw_or (pt_not (pt_val (pe_callB call_isi (by rfl) T.n_isinstance (by decide +kernel) (pa_cons (pv 0) (pa_cons (pe_bltn (v := .ty "str") (by rfl) T.n_str (by decide +kernel) rfl) pa_nil))))) (pw_or1 (pt_not (pt_chain op_le op_le pe_int (pe_callB call_len_str (by rfl) T.n_len (by decide +kernel) (pa_cons (pv 0) pa_nil)) (pe_glob (v := .int 8) rfl gLong ⟨_, rfl⟩))))))
      (pss_one (ps_ret pe_bl))
      pss_nil)
    (pss_one (ps_ret (pe_callB (cr_all rfl) (by rfl) T.n_all (by decide +kernel) (pa_cons (pe_lc (own := [("letter", 1)]) (g := gName 1) (tt := tYes) rfl sc_is_name.nd (pi_str (pv 0)) (blkOk_by (N := ["thing", "letter"]) (sc := defScope s_is_name) (by decide +kernel)) (fun _ _ _ _ _ => (pg_name (i := 1) sc_is_name.nd rfl (.inl rfl))) (fun _ _ _ _ _ => pts_nil) (fun _ _ _ _ _ => (pe_cmpR op_in_sign (pv 1) (pe_glob (v := .str abc) rfl gLet ⟨_, rfl⟩) (by rfl)))) pa_nil))))), ?_⟩
    refine ⟨_, rfl, _, _, _, _, _, rfl, .ty "str", ty_of hd, ki_str d, _, rfl, ?_⟩
    refine ite2 (fun h => ?_) (fun h => ?_)
    · have q' := q H (Ext.refl H)
      rw [kS_not h] at q'
      exact iteT q'
    · obtain ⟨x, rfl, rfl⟩ := dq_str hd (kS_yes h)
      have hx : x.length ≤ 1000 := (hz x rfl).1
      have hx2 : x.length ≤ sizeLine := Nat.le_trans hx (by decide)
      have qx : Q (.bl (isNameS x)) H := q H (Ext.refl H)
      refine ⟨_, rfl, _, rfl, hx2, _, _, rfl, rfl, _, rfl, ?_⟩
      refine ite2 (fun h1 => ?_) (fun h1 => ?_)
      · refine ⟨_, _, rfl, rfl, _, rfl, ?_⟩
        have h1' : (1 : Int) ≤ (x.length : Int) := of_decide_eq_true h1
        refine ite2 (fun h2 => ?_) (fun h2 => ?_)
        · have h2' : ¬ (x.length : Int) ≤ 8 := by simpa using h2
          rw [isNameS_short (by omega)] at qx
          exact qx
        · have h2' : (x.length : Int) ≤ 8 := by simpa using h2
          rw [isNameS_long (by omega)] at qx
          refine ⟨_, rfl, x, rfl, fun D hD => ?_⟩
          refine lc_det walk_str (sg x) (fun _ => true) (fun i => V.bl (decide (x.cps.toList.getD i 0 ∈ abc.cps.toList))) hD hx2 its_sg (fun _ _ => trivial)
            (fun i H' _ _ Q' q' => q') (fun i H' _ _ _ Q' q' => ⟨_, rfl, _, abc, rfl, rfl, q'⟩) ?_
          rw [signs_all x fun c => decide (c ∈ abc.cps.toList)]
          refine ⟨D, _, rfl, SqL.of upd_same, ?_⟩
          rw [all_id_map]
          have q2 := q (upd H D (.lst ((x.cps.toList.map fun c => decide (c ∈ abc.cps.toList)).map V.bl))) (Ext.new hD)
          have e2 : isNameD (.str x) = x.cps.toList.all fun c => decide (c ∈ abc.cps.toList) := isNameS_long (by omega)
          rw [e2] at q2
          exact q2
      · have h1' : ¬ (1 : Int) ≤ (x.length : Int) := by simpa using h1
        rw [isNameS_short (by omega)] at qx
        exact ⟨_, rfl, iteT qx⟩
end

-- d
section
variable {P : Program} {w : World} {K : PySem.W.Frag} {mg : Str → Option Value} {base : Heap}
abbrev s__law_alike : Stmt := (topS 40)
theorem sc__law_alike : FnScope ["_law_found", "_law_due"] ["_law_found", "_law_due"] (defScope s__law_alike) := ⟨rfl, rfl, rfl, by decide +kernel, rfl, by decide +kernel, by decide +kernel⟩
theorem ok_alike {f : Addr} {fd : FuncData} (F : Fun K "_law_alike" "_law_alike" s__law_alike f fd) (T : BT mg) :
    FnG P w K mg base 1 f fd ["_law_found", "_law_due"] spAlike := by
  refine okG F sc__law_alike (fun vs H Q E h => ?_) (fun cdv A outer s H vs Q E hG hr h => ?_)
  · obtain ⟨v, u, d, rfl, _⟩ := h
    rfl
  · obtain ⟨v, u, d, rfl, S, h1, h2, hs, ft, q⟩ := h
    refine ⟨_, (pss_one (ps_ret (pe_and (pe_cmpR (op_eqQ hr) (pv 0) (pv 1) (nomark _)) (pe_one (pe_cmpR op_eq (pe_callB (call_reprD hG hr) (by rfl) T.n_repr (by decide +kernel) (pa_cons (pv 0) pa_nil)) (pe_callB (call_reprD hG hr) (by rfl) T.n_repr (by decide +kernel) (pa_cons (pv 1) pa_nil)) (nomark _)))))), ?_⟩
    refine ⟨_, rfl, _, rfl, d, d, S, h1, h2, hs, hs, _, rfl, ?_⟩
    rw [SeqAt.eqv_refl d (SeqAt.canLay_of_shaped hs)]
    refine iteT ?_
    refine ⟨_, rfl, v, d, rfl, S, h1, ft.sh, ft.dep, ft.len, _, rfl, u, d, rfl, S, h2, ft.sh, ft.dep, ft.len, rfl, ?_⟩
    have e : decide (V.str d.shown = V.str d.shown) = true := decide_eq_true rfl
    rw [e]
    exact q H (Ext.refl H)
end

-- f
section
variable {P : Program} {w : World} {K : PySem.W.Frag} {mg : Str → Option Value} {base : Heap}

abbrev s__law_bag : Stmt := (topS 38)
theorem sc__law_bag : FnScope ["_law_script", "_law_cell"] ["_law_script"] (defScope s__law_bag) := ⟨rfl, rfl, rfl, by decide +kernel, rfl, by decide +kernel, by decide +kernel⟩
theorem ok_bag {f : Addr} {fd : FuncData} (F : Fun K "_law_bag" "_law_bag" s__law_bag f fd) (T : BT mg) :
    FnOk P w K mg base CX0 1 f fd ["_law_script"] (spBag0 K) := by
  refine F.ok sc__law_bag (fun vs H Q E h => ?_) (fun cdv A outer s H vs Q E hr h => ?_)
  · obtain ⟨a, ns, rfl, _⟩ := h
    rfl
  · obtain ⟨a, ns, rfl, hs, hl, q⟩ := h
    refine ⟨_, (pss_one (ps_ret (pe_lst (pa_cons pe_int (pa_cons pe_int (pa_cons pe_int (pa_cons (pe_lc (own := [("_law_cell", 1)]) (g := gName 1) (tt := tYes) rfl sc__law_bag.nd (pi_list (pe_slice sl_list (pv 0) po_none (po_some pe_int))) (blkOk_by (N := ["_law_script", "_law_cell"]) (sc := defScope s__law_bag) (by decide +kernel)) (fun _ _ _ _ _ => (pg_name (i := 1) sc__law_bag.nd rfl (.inl rfl))) (fun _ _ _ _ _ => pts_nil) (fun _ _ _ _ _ => (pe_callB call_abs (by rfl) T.n_abs (by decide +kernel) (pa_cons (pv 1) pa_nil)))) pa_nil))))))), ?_⟩
    obtain ⟨cs, ec, hc⟩ := cut_ints ns none (some 63)
    refine ⟨_, rfl, _, rfl, a, _, rfl, hs, fun p hp => ?_⟩
    rw [ec]
    have e1 : Ext H (upd H p (.lst (cs.map V.int))) := Ext.new hp
    refine ⟨p, rfl, ⟨_, SqL.of upd_same⟩, fun D hD => ?_⟩
    have e2 : Ext (upd H p (.lst (cs.map V.int))) (upd (upd H p (.lst (cs.map V.int))) D (.lst ((cs.map fun i => if i < 0 then -i else i).map V.int))) := Ext.new hD
    refine lc_det (walk_list (K := K) (a := p) (xs := cs.map V.int)) (fun i => .int (cs.getD i 0)) (fun _ => true) (fun i => .int (if cs.getD i 0 < 0 then -(cs.getD i 0) else cs.getD i 0)) hD (by rw [List.length_map]; exact Nat.le_trans hc (Nat.le_trans hl (by decide)))
      ?_ (fun H' e => SqL.of (e _ _ upd_same)) (fun i H' _ _ Q' q' => q') (fun i H' _ _ _ Q' q' => ⟨_, rfl, _, rfl, q'⟩) ?_
    · rintro i H' x H'' hi ⟨rfl, hx⟩
      refine ⟨rfl, ?_⟩
      rw [List.getElem?_map] at hx
      rw [List.getD_eq_getElem?_getD]
      cases e : cs[i]? with
      | none => rw [e] at hx; cases hx
      | some z => rw [e] at hx; exact (Option.some.inj hx).symm
    · rw [List.filter_eq_self.mpr (fun _ _ => rfl), List.length_map, map_range_getI (fun i => V.int (if i < 0 then -i else i)) cs]
      have em : (cs.map fun i => V.int (if i < 0 then -i else i)) = (cs.map fun i => if i < 0 then -i else i).map V.int := by
        rw [List.map_map]
        rfl
      rw [em]
      refine ⟨by show 4 ≤ sizeLine; decide, fun r hr' => ?_⟩
      have e3 := Ext.new (o := .lst (bagL 0 1234567891 0 D)) hr'
      have nDr : D ≠ r := fun z => by rw [← z, upd_same] at hr'; cases hr'
      refine q r D (cs.map fun i => if i < 0 then -i else i) _ ((e1.trans e2).free hr') ((e1.trans e2).trans e3) upd_same (by rw [upd_ne nDr, upd_same]) ?_ nDr
      intro n hn
      obtain ⟨i, _, rfl⟩ := List.mem_map.mp hn
      split <;> omega
end

-- g
section
variable {P : Program} {w : World} {K : PySem.W.Frag} {mg : Str → Option Value} {base : Heap}
abbrev s__law_names : Stmt := (topS 41)
theorem sc__law_names : FnScope ["_law_bag_here", "_law_many", "_law_letters", "_law_words", "_law_style", "_law_turn", "_law_base", "_law_at", "_law_k"] ["_law_bag_here", "_law_many"] (defScope s__law_names) := ⟨rfl, rfl, rfl, by decide +kernel, rfl, by decide +kernel, by decide +kernel⟩
theorem ok_names {f : Addr} {fd : FuncData} (F : Fun K "_law_names" "_law_names" s__law_names f fd) (T : BT mg)
    (CT : Ca P w K mg base 1 "_law_take" ["_law_bag_here", "_law_many"] spTake) :
    FnOk P w K mg base CX0 2 f fd ["_law_bag_here", "_law_many"] spNames := by
  refine F.ok sc__law_names (fun vs H Q E h => ?_) (fun cdv A outer s H vs Q E hr h => ?_)
  · obtain ⟨a, m, rfl, _⟩ := h
    rfl
  · obtain ⟨a, m, rfl, hb, hm1, hm8, q⟩ := h
    refine ⟨_, (pss_cons (ps_set (i := 2) sc__law_names.nd rfl (.inr rfl) pe_str)
    (pss_cons (ps_set (i := 3) sc__law_names.nd rfl (.inl rfl) pe_str)
    (pss_cons (ps_set (i := 3) sc__law_names.nd rfl (.inl rfl) (pe_split (pe_op op_add_str (pv 3) pe_str) pe_str))
    (pss_cons (ps_asg (pe_tup (pa_cons (pe_ca CT (hr.mono (by decide)) (by rfl) (pa_cons (pv 0) (pa_cons pe_int pa_nil))) (pa_cons (pe_ca CT (hr.mono (by decide)) (by rfl) (pa_cons (pv 0) (pa_cons pe_int pa_nil))) pa_nil))) (pg_tup (by rfl) (pgs_cons (pg_name (i := 4) sc__law_names.nd rfl (.inl rfl)) (pgs_cons (pg_name (i := 5) sc__law_names.nd rfl (.inr rfl)) pgs_nil))))
    (pss_cons (ps_set (i := 6) sc__law_names.nd rfl (.inr rfl) (pe_join pe_str (pe_lc (own := [("_law_k", 8)]) (g := gName 8) (tt := tYes) rfl sc__law_names.nd (pi_range1 (by rfl) T.n_range (pa_cons (pe_op op_add pe_int (pe_ca CT (hr.mono (by decide)) (by rfl) (pa_cons (pv 0) (pa_cons pe_int pa_nil)))) pa_nil)) (blkOk_by (N := ["_law_bag_here", "_law_many", "_law_letters", "_law_words", "_law_style", "_law_turn", "_law_base", "_law_at", "_law_k"]) (sc := defScope s__law_names) (by decide +kernel)) (fun _ _ _ _ _ => (pg_name (i := 8) sc__law_names.nd rfl (.inl rfl))) (fun _ _ _ _ _ => pts_nil) (fun _ _ _ _ _ => (pe_ix ix_str (pv 2) (pe_ca CT (hr.mono (by decide)) (by rfl) (pa_cons (pv 0) (pa_cons pe_int pa_nil))) (fun _ _ => rfl))))))
    (pss_cons (ps_set (i := 7) sc__law_names.nd rfl (.inr rfl) (pe_ca CT (hr.mono (by decide)) (by rfl) (pa_cons (pv 0) (pa_cons (pe_op op_add (pe_callB call_len_str (by rfl) T.n_len (by decide +kernel) (pa_cons (pv 6) pa_nil)) pe_int) pa_nil))))
    (pss_cons (ps_if (pt_cmpR op_eq (pv 4) pe_int (nomark _))
      (pss_one (ps_ret (pe_slice sl_list (pe_op op_cat (pe_slice sl_list (pv 3) (po_some (pv 5)) po_none) (pe_slice sl_list (pv 3) po_none (po_some (pv 5)))) po_none (po_some (pv 1)))))
      pss_nil)
    (pss_cons (ps_if (pt_cmpR op_eq (pv 4) pe_int (nomark _))
      (pss_one (ps_ret (pe_lc (own := [("_law_k", 8)]) (g := gName 8) (tt := tYes) rfl sc__law_names.nd (pi_range1 (by rfl) T.n_range (pa_cons (pv 1) pa_nil)) (blkOk_by (N := ["_law_bag_here", "_law_many", "_law_letters", "_law_words", "_law_style", "_law_turn", "_law_base", "_law_at", "_law_k"]) (sc := defScope s__law_names) (by decide +kernel)) (fun _ _ _ _ _ => (pg_name (i := 8) sc__law_names.nd rfl (.inl rfl))) (fun _ _ _ _ _ => pts_nil) (fun _ _ _ _ _ => (pe_ix ix_str (pv 2) (pe_op op_mod (pe_callTy call_int1 (by rfl) T.n_int (by decide +kernel) (pa_cons (pe_op op_add (pv 5) (pe_op op_mul pe_int (pv 8))) pa_nil)) pe_int) (fun _ _ => rfl))))))
      pss_nil)
    (pss_one (ps_ret (pe_lc (own := [("_law_k", 8)]) (g := gName 8) (tt := tYes) rfl sc__law_names.nd (pi_range1 (by rfl) T.n_range (pa_cons (pv 1) pa_nil)) (blkOk_by (N := ["_law_bag_here", "_law_many", "_law_letters", "_law_words", "_law_style", "_law_turn", "_law_base", "_law_at", "_law_k"]) (sc := defScope s__law_names) (by decide +kernel)) (fun _ _ _ _ _ => (pg_name (i := 8) sc__law_names.nd rfl (.inl rfl))) (fun _ _ _ _ _ => pts_nil) (fun _ _ _ _ _ => (pe_op op_add_str (pe_op op_add_str (pe_slice sl_str (pv 6) po_none (po_some (pv 7))) (pe_ix ix_str (pv 2) (pe_op op_mod (pe_callTy call_int1 (by rfl) T.n_int (by decide +kernel) (pa_cons (pe_op op_add (pv 5) (pe_op op_mul pe_int (pv 8))) pa_nil)) pe_int) (fun _ _ => rfl))) (pe_slice sl_str (pv 6) (po_some (pv 7)) po_none)))))))))))))), ?_⟩
    -- the words
    refine ⟨_, rfl, _, _, rfl, rfl, by decide +kernel, ⟨_, rfl⟩, _, _, rfl, rfl, by decide +kernel, by decide +kernel, fun pw hpw => ?_⟩
    rw [show Txt.split (Str.ofString "send take ended close else first any step quit server back again where log a b ab ba z" ++ Str.ofString " stuck seat sticks lane") (Str.ofString " ") = wordL from split_words]
    have e1 := Ext.new (o := .lst (wordL.map V.str)) hpw
    have hw1 : upd H pw (.lst (wordL.map V.str)) pw = some (.lst (wordL.map V.str)) := upd_same
    generalize upd H pw (.lst (wordL.map V.str)) = H1 at e1 hw1 ⊢
    -- style, turn
    refine ⟨_, rfl, a, 4, rfl, hb.up e1, by decide, by decide, fun r0 l0 u0 => ⟨_, rfl, a, 20, rfl, hb.up e1, by decide, by decide, fun r1 l1 u1 => ⟨by show 2 ≤ sizeLine; decide, fun pt hpt => ?_⟩⟩⟩
    have e2 := e1.trans (Ext.new (o := .tup [.int r0, .int r1]) hpt)
    have hw2 := Ext.new (o := .tup [.int r0, .int r1]) hpt _ _ hw1
    refine ⟨pt, _, rfl, SqT.of upd_same, rfl, _, _, rfl, _, _, rfl, rfl, ?_⟩
    generalize upd H1 pt (.tup [.int r0, .int r1]) = H2 at e2 hw2 ⊢
    -- the base
    refine ⟨⟨_, rfl⟩, _, rfl, a, 7, rfl, hb.up e2, by decide, by decide, fun r2 l2 u2 => ⟨_, _, rfl, rfl, _, rfl, by omega, by omega, fun D hD => ?_⟩⟩
    refine lc_ext walk_range (fun _ v _ => ∃ c, c ∈ abcL ∧ v = .str (one c)) (fun _ _ _ _ _ h => h) hD (by show (1 + r2).toNat ≤ 2 ^ 24; omega) (fun _ _ => trivial) ?_ ?_
    · rintro i x H' H'' hi e ⟨rfl, rfl⟩
      refine ⟨Ext.refl _, fun Q' q' => ?_⟩
      refine ⟨_, rfl, _, rfl, a, 26, rfl, hb.up (e2.trans e), by decide, by decide, fun r l u => ?_⟩
      obtain ⟨j, rfl⟩ : ∃ j : Nat, r = (j : Int) := ⟨r.toNat, by omega⟩
      have hj : j < 26 := by omega
      exact ⟨_, _, 97 + j, rfl, rfl, by decide +kernel, atI_nat (abc_at j hj), q' _ _ (Ext.refl _) ⟨_, abc_mem hj, rfl⟩⟩
    intro H3 xs e3 hD3 hl hR
    obtain ⟨cs, rfl, hcl, hcm⟩ := ones_of hl hR
    have hcs1 : 1 ≤ cs.length := by rw [hcl]; omega
    have hcs7 : cs.length ≤ 7 := by rw [hcl]; omega
    refine ⟨_, D, cs.map one, rfl, rfl, .inl (SqL.of hD3), by rw [ones_len, List.length_map]; show cs.length + cs.length * 0 ≤ _; omega, ?_⟩
    have hj := join_signs cs
    have ej : Txt.join (Str.ofString "") (cs.map one) = Txt.join "" (cs.map one) := rfl
    rw [ej]
    generalize Txt.join "" (cs.map one) = b at hj ⊢
    have hbl : b.length = cs.length := by rw [tlen, hj]
    have e23 := e2.trans e3
    have hw3 := e3 _ _ hw2
    -- the place
    refine ⟨_, rfl, _, rfl, _, rfl, by rw [hbl]; show _ ≤ 2 ^ 24; omega, _, _, rfl, rfl, a, _, rfl, hb.up e23, by omega, by omega, fun r3 l3 u3 => ?_⟩
    obtain ⟨t, rfl⟩ : ∃ j : Nat, r1 = (j : Int) := ⟨r1.toNat, by omega⟩
    obtain ⟨at_, rfl⟩ : ∃ j : Nat, r3 = (j : Int) := ⟨r3.toNat, by omega⟩
    obtain ⟨k, rfl⟩ : ∃ j : Nat, m = (j : Int) := ⟨m.toNat, by omega⟩
    have hk8 : k ≤ 8 := by omega
    have ha : at_ ≤ cs.length := by omega
    refine ⟨_, rfl, rfl, _, rfl, ?_⟩
    refine ite2 (fun g0 => ?_) (fun g0 => ?_)
    · refine ⟨_, rfl, _, rfl, _, rfl, pw, _, rfl, SqL.of hw3, fun p1 h1 => ?_⟩
      have f1 := Ext.new (o := .lst (cutV (wordL.map V.str) (some (t : Int)) none)) h1
      refine ⟨_, rfl, _, rfl, _, rfl, pw, _, rfl, SqL.of (f1 _ _ hw3), fun p2 h2 => ?_⟩
      have f2 := Ext.new (o := .lst (cutV (wordL.map V.str) none (some (t : Int)))) h2
      refine ⟨p1, p2, _, _, rfl, rfl, f2 _ _ upd_same, upd_same, ?_, fun p3 h3 => ?_⟩
      · have z1 := cutV_length (wordL.map V.str) (some (t : Int)) none
        have z2 := cutV_length (wordL.map V.str) none (some (t : Int))
        have z3 : (wordL.map V.str).length = 23 := rfl
        show _ ≤ 2 ^ 24
        omega
      · have f3 := Ext.new (o := .lst (cutV (wordL.map V.str) (some (t : Int)) none ++ cutV (wordL.map V.str) none (some (t : Int)))) h3
        refine ⟨_, rfl, _, rfl, p3, _, rfl, SqL.of upd_same, fun p4 h4 => ?_⟩
        have el : cutV (cutV (wordL.map V.str) (some (t : Int)) none ++ cutV (wordL.map V.str) none (some (t : Int))) none (some (k : Int)) = ((wordL.drop t ++ wordL.take t).take k).map V.str := by
          rw [cut_drop, cut_take, cut_take, List.map_take, List.map_append, List.map_drop, List.map_take]
        rw [el]
        have e4 := ((e23.trans f1).trans f2).trans f3
        exact q p4 _ _ (e4.trans (Ext.new h4)) (e4.free h4) upd_same (names0 t k (by omega) (by omega))
    · refine ⟨_, rfl, rfl, _, rfl, ?_⟩
      refine ite2 (fun g1 => ?_) (fun g1 => ?_)
      · refine ⟨_, rfl, _, rfl, by omega, by omega, fun D4 hD4 => ?_⟩
        refine lc_det walk_range (fun i => .int (0 + (i : Int))) (fun _ => true) (fun i => .str (one (let1 t i))) hD4 (by show _ ≤ 2 ^ 24; omega) (fun i H x H' _ y => y) (fun _ _ => trivial) (fun i H' _ _ Q' q' => q') (fun i H' hi _ _ Q' q' => ?_) ?_
        · refine ⟨_, rfl, _, rfl, _, rfl, _, _, rfl, rfl, .inl ⟨by decide, by decide⟩, _, _, rfl, rfl, .inl ⟨_, rfl, _, _, rfl, rfl, pos_of (by decide), _, _, let1 t i, rfl, rfl, by decide +kernel, ?_, q'⟩⟩
          have ev : ((t : Int) + 3 * (0 + (i : Int))) % 26 = (((t + 3 * i) % 26 : Nat) : Int) := by omega
          show atI _ (((t : Int) + 3 * (0 + (i : Int))) % 26) = _
          rw [ev]
          exact atI_nat (abc_at _ (Nat.mod_lt _ (by decide)))
        · rw [List.filter_eq_self.mpr (fun _ _ => rfl)]
          have em : ((List.range (k : Int).toNat).map fun i => V.str (one (let1 t i))) = ((List.range k).map fun i => one (let1 t i)).map V.str := by
            rw [List.map_map]
            rfl
          rw [em]
          exact q D4 _ _ (e23.trans (Ext.new hD4)) (e23.free hD4) upd_same (names1 t k hk8)
      · refine ⟨_, rfl, _, rfl, by omega, by omega, fun D4 hD4 => ?_⟩
        refine lc_det walk_range (fun i => .int (0 + (i : Int))) (fun _ => true) (fun i => .str (cutS b none (some (at_ : Int)) ++ one (let1 t i) ++ cutS b (some (at_ : Int)) none)) hD4 (by show _ ≤ 2 ^ 24; omega) (fun i H x H' _ y => y) (fun _ _ => trivial) (fun i H' _ _ Q' q' => q') (fun i H' hi _ _ Q' q' => ?_) ?_
        · have hb2 : b.length ≤ 2 ^ 24 := by omega
          have c1 := cutS_length b none (some (at_ : Int))
          have c2 := cutS_length b (some (at_ : Int)) none
          refine ⟨_, rfl, _, rfl, _, rfl, b, rfl, hb2, ?_⟩
          refine ⟨_, rfl, _, rfl, _, rfl, _, _, rfl, rfl, .inl ⟨by decide, by decide⟩, _, _, rfl, rfl, .inl ⟨_, rfl, _, _, rfl, rfl, pos_of (by decide), _, _, let1 t i, rfl, rfl, by decide +kernel, ?_, ?_⟩⟩
          · have ev : ((t : Int) + 3 * (0 + (i : Int))) % 26 = (((t + 3 * i) % 26 : Nat) : Int) := by omega
            show atI _ (((t : Int) + 3 * (0 + (i : Int))) % 26) = _
            rw [ev]
            exact atI_nat (abc_at _ (Nat.mod_lt _ (by decide)))
          · refine ⟨_, _, rfl, rfl, by show _ + 1 ≤ 2 ^ 24; omega, ?_⟩
            refine ⟨_, rfl, _, rfl, _, rfl, b, rfl, hb2, _, _, rfl, rfl, ?_, q'⟩
            have c3 : (cutS b none (some (at_ : Int)) ++ one (let1 t i)).length = (cutS b none (some (at_ : Int))).length + 1 := by
              rw [tlen, tlen, tl_app, List.length_append]
              rfl
            show (cutS b none (some (at_ : Int)) ++ one (let1 t i)).length + _ ≤ 2 ^ 24
            omega
        · rw [List.filter_eq_self.mpr (fun _ _ => rfl)]
          have em : ((List.range (k : Int).toNat).map fun i => V.str (cutS b none (some (at_ : Int)) ++ one (let1 t i) ++ cutS b (some (at_ : Int)) none)) = ((List.range k).map fun i => cutS b none (some (at_ : Int)) ++ one (let1 t i) ++ cutS b (some (at_ : Int)) none).map V.str := by
            rw [List.map_map]
            rfl
          rw [em]
          refine q D4 _ _ (e23.trans (Ext.new hD4)) (e23.free hD4) upd_same (names2 cs at_ t k _ hcs1 hcs7 hcm hk8 ha fun i _ => ?_)
          rw [tl_app, tl_app, cutS_take, cutS_drop, hj]
          rfl
end

end K28

set_option Elab.async false
set_option linter.all false
set_option maxRecDepth 100000
set_option maxHeartbeats 4000000
namespace Ol
open PySem PySem.Spec PyProof.Rows L2

/-- a method that may raise, within a try -/
def tMethX (C : Addr) (m : Str) (sp : Sp) (E : L2.St → XK) (ta : TE) (t : TA) : TE := fun σ H Q => ta σ H fun x H1 => ∃ a dx fs, x = .ref a ∧ H1 a = some (.ins C dx fs) ∧ fs.lookup m = none ∧
  t σ H1 fun vs H2 => sp (x :: vs) H2 Q (E σ)
/-- a method that may raise, and its promise -/
structure CmX (P : Program) (w : World) (K : PySem.W.Frag) (mg : Str → Option Value) (base : Heap)
    (C : Addr) (k : Nat) (m : Str) (ps : List Str) (sp : Sp) : Prop where
  has : ∃ (f : Addr) (fd : FuncData), FnOk P w K mg base (L2.CX P w) k f fd ps sp ∧ Meth K C m f ∧ Binds K fd ps []
section
variable {X : Cx} {k : Nat} {C : Addr} {ps : List Str} {sp : Sp} {m : Str} {o e : Expr} {es : List Expr} {ta : TE} {t : TA} {apos pos : Pos} {E : L2.St → XK}
theorem pe_cmX {pl : Sem Bool} (M : CmX X.prog X.w X.K X.mg X.base C k m ps sp) (c : Cls X.K C) (hr : Room k X.A) (hx : ∀ σ, PassesAt (L2.CX X.prog X.w) X σ (E σ)) (he : PE X o ta) (ha : PA X (e :: es) t)
    (hst : starEach (e :: es) X.env = (false, eval e X.env) :: starEach es X.env := by rfl) (hpl : (backTo pos (starEach es X.env)).any (·.1) = false := by rfl)
    (ht : eval (.Call (.Attribute o m apos) (e :: es) [] pos) X.env = (do
      let ov ← eval o X.env
      standAt apos.atName
      let (f, first) ← holding [ov] (getMethod ov m pl)
      callWith pos f first (backTo pos (starEach (e :: es) X.env)) (backToKw pos (keywordEach [] X.env))) := by rfl) :
    PE X (.Call (.Attribute o m apos) (e :: es) [] pos) (tMethX C m sp E ta t) := by
  obtain ⟨f, fd, F, hm, b⟩ := M.has
  refine ⟨fun pins s σ H Q I h => ?_⟩
  refine PySem.W.methodCall_KW (pl := pl) (thn (he.run pins s σ H _ I h) fun u s1 ⟨x, H1, I1, rx, a, dx, fs, ex, ea, l, q⟩ => ?_) ht
  subst ex
  obtain rfl : u = Value.ref a := rx
  refine getmeth_ok I1 ea c hm l ?_
  refine PySem.W.callWith_K (first := [.ref a]) (h₀ := X.base) I.ok.mod.kin hm.kp (thn (ha.run pos pins s1 σ H1 _ I1 q) fun us s2 ⟨vs, H2, I2, r, q2⟩ => ⟨I2.kIn, ?_⟩) hst hpl
  exact run_fnS (us := .ref a :: us) (vs := .ref a :: vs) F hr b (hx σ) I2 (.cons rfl r) q2
end
end Ol

set_option Elab.async false
set_option linter.all false
set_option maxRecDepth 100000
set_option maxHeartbeats 4000000
namespace Ol
open PySem PySem.Spec PyProof.Rows L2 RZ

theorem walk_zipT {K : PySem.W.Frag} {a b : Addr} {xs ys : List V} {n : Nat} (hn : n = min xs.length ys.length) : Walk (ItzT K a b) n (fun H => SqT K H a xs ∧ SqT K H b ys) (YPair (fun i => xs[i]?) (fun i => ys[i]?)) := by
  subst hn
  refine ⟨fun i _ hi q => ?_, fun _ q => ⟨xs, ys, q.1, q.2, by omega⟩, fun i H v H' _ q y => ?_⟩
  · have h1 : i < xs.length := by omega
    have h2 : i < ys.length := by omega
    exact ⟨xs, ys, xs[i], ys[i], q.1, q.2, by simp [h1], by simp [h2]⟩
  · obtain ⟨T, x, z, h1, h2, h3, h4, h5⟩ := y
    exact ⟨T, x, z, h1, h2, h3, h4 xs q.1, h5 ys q.2⟩

theorem ext_del {H H' : Hp} {D : Addr} (e : Ext H H') : Ext (del H D) (del H' D) := fun b o z => by
  by_cases c : b = D
  · rw [c, del_same] at z; cases z
  · rw [del_ne c] at z ⊢
    exact e _ _ z
theorem del_ext {H : Hp} {D : Addr} : Ext (del H D) H := fun b o z => by
  by_cases c : b = D
  · rw [c, del_same] at z; cases z
  · rw [del_ne c] at z
    exact z
theorem ext_to {H H' : Hp} {D : Addr} (e : Ext H H') (h : H D = none) : Ext H (del H' D) := fun b o z => by
  rw [del_ne (fun c => by rw [c, h] at z; cases z)]
  exact e _ _ z
theorem del_upd {H : Hp} {D : Addr} {o : HO} : del (upd H D o) D = del H D := by
  funext b
  by_cases c : b = D
  · rw [c, del_same, del_same]
  · rw [del_ne c, del_ne c, upd_ne c]
theorem del_at {H : Hp} {D p : Addr} {o u : HO} (h : H p = none) (hD : H D = some u) {H' : Hp} (h' : H' p = some o) : del H' D p = some o := by
  rw [del_ne (fun c => by rw [c, hD] at h; cases h)]
  exact h'
/-- what the second clause is to do in turn i of the first one -/
def Inner (P : Nat → Nat → List V → Hp → Prop) (D : Addr) (H : Hp) (g1 : TG) (tt1 : TT) (te : TE) (vs1 : List Nat) (i : Nat) (σ2 : L2.St) (J1 : It) (H4 : Hp) : Prop :=
  Ext H H4 ∧ ∃ n1 G1 Y1, Walk J1 n1 G1 Y1 ∧
    (∀ Hz, Ext (del H4 D) Hz → G1 Hz) ∧
    (∀ ys Hz, P i n1 ys Hz → P (i + 1) 0 ys Hz) ∧
    ∀ j y Ha Hb ys, j < n1 → Ext (del H4 D) Ha → Ha D = some (.lst ys) → Y1 j Ha y Hb → P i j ys (del Ha D) →
      ∀ (QY : V → Hp → Prop) (QN : Hp → Prop),
        (∀ y H5, Ext Ha H5 → P i (j + 1) (ys ++ [y]) (del H5 D) → QY y H5) →
        (∀ H5, Ext Ha H5 → P i (j + 1) ys (del H5 D) → QN H5) →
        g1 y (wipe σ2 vs1) Hb fun σ3 H5 => wipe σ3 vs1 = wipe σ2 vs1 ∧ tt1 σ3 H5 fun b H6 => if b = true then te σ3 H6 QY else QN H6
/-- a comprehension of two clauses (a test in the second one alone): P holds of both turns, the list so far, and all that stands but the list -/
theorem lc2_acc {J : It} {n : Nat} {G : Hp → Prop} {Y : Nat → Hp → V → Hp → Prop} (w : Walk J n G Y) {g : TG} {wi1 : TI} {g1 : TG} {tt1 : TT} {te : TE} {vs vs1 : List Nat} {σ : L2.St} {H1 : Hp} {D : Addr} {Qd : Hp → Prop}
    (P : Nat → Nat → List V → Hp → Prop) (up : ∀ i j xs H H', Ext H H' → P i j xs H → P i j xs H') (h0 : P 0 0 [] H1) (hD : H1 D = none)
    (hlen : ∀ i j xs H, P i j xs H → xs.length < sizeLine) (hG : ∀ H, Ext H1 H → G H)
    (hs : ∀ i x H H' xs, i < n → Ext H1 H → H D = some (.lst xs) → Y i H x H' → P i 0 xs (del H D) →
      ∀ R : L2.St → It → Hp → Prop, (∀ σ2 J1 H4, Inner P D H g1 tt1 te vs1 i σ2 J1 H4 → R σ2 J1 H4) →
      g x (wipe σ vs) H' fun σ2 H2 => wipe σ2 vs = wipe σ vs ∧ wi1 σ2 H2 (R σ2))
    (hd : ∀ H xs, Ext H1 H → H D = some (.lst xs) → P n 0 xs H → Qd H) :
    ∃ W : Nat → Nat → Hp → Prop, (∃ m, W 0 m (upd H1 D (.lst []))) ∧ ∀ i m H, W i m H →
      (J.stop i H ∧ Qd H) ∨ (J.go i H ∧ ∃ Nx : Hp → Prop, (∀ H', Nx H' → ∃ m', m' < m ∧ W (i + 1) m' H') ∧ ∀ x H', J.yld i H x H' → g x (wipe σ vs) H' fun σ2 H2 => wipe σ2 vs = wipe σ vs ∧ tYes σ2 H2 fun b H3 =>
        if b = true then wi1 σ2 H3 fun J1 H4 => ∃ W1 : Nat → Nat → Hp → Prop, (∃ m, W1 0 m H4) ∧ ∀ j k H, W1 j k H →
          (J1.stop j H ∧ Nx H) ∨ (J1.go j H ∧ ∃ Nx1 : Hp → Prop, (∀ H', Nx1 H' → ∃ k', k' < k ∧ W1 (j + 1) k' H') ∧ ∀ x H', J1.yld j H x H' → g1 x (wipe σ2 vs1) H' fun σ3 H5 => wipe σ3 vs1 = wipe σ2 vs1 ∧ tt1 σ3 H5 fun b H6 =>
            if b = true then te σ3 H6 fun y H7 => ∃ acc, H7 D = some (.lst acc) ∧ acc.length < sizeLine ∧ Nx1 (upd H7 D (.lst (acc ++ [y]))) else Nx1 H6)
        else Nx H3) := by
  have e1 : Ext H1 (upd H1 D (.lst [])) := Ext.new hD
  let Pv : Nat → Hp → Prop := fun i H => ∃ xs, Ext H1 H ∧ H D = some (.lst xs) ∧ P i 0 xs (del H D)
  refine ⟨fun i m H => m = n - i ∧ i ≤ n ∧ Pv i H, ⟨n, by simp, Nat.zero_le _, [], e1, upd_same, up 0 0 [] _ _ (ext_to e1 hD) h0⟩, ?_⟩
  rintro i m H ⟨rfl, hi, xs, e, hx, hp⟩
  have q := hG H e
  by_cases hlt : i < n
  · refine .inr ⟨w.goes i H hlt q, Pv (i + 1), fun H' p' => ⟨n - (i + 1), by omega, rfl, hlt, p'⟩, fun x H' y => ?_⟩
    refine hs i x H H' xs hlt e hx (w.yields i H x H' hlt q y) hp (fun σ2 J1 H4 => ∃ W1 : Nat → Nat → Hp → Prop, (∃ m, W1 0 m H4) ∧ ∀ j k H, W1 j k H →
          (J1.stop j H ∧ Pv (i + 1) H) ∨ (J1.go j H ∧ ∃ Nx1 : Hp → Prop, (∀ H', Nx1 H' → ∃ k', k' < k ∧ W1 (j + 1) k' H') ∧ ∀ x H', J1.yld j H x H' → g1 x (wipe σ2 vs1) H' fun σ3 H5 => wipe σ3 vs1 = wipe σ2 vs1 ∧ tt1 σ3 H5 fun b H6 =>
            if b = true then te σ3 H6 fun y H7 => ∃ acc, H7 D = some (.lst acc) ∧ acc.length < sizeLine ∧ Nx1 (upd H7 D (.lst (acc ++ [y]))) else Nx1 H6)) ?_
    rintro σ2 J1 H4 ⟨e4, n1, G1, Y1, w1, hG1, hend, hst⟩
    have e14 : Ext H1 (del H4 D) := ext_to (e.trans e4) hD
    let Pj : Nat → Hp → Prop := fun j Ha => ∃ ys, Ext (del H4 D) (del Ha D) ∧ Ha D = some (.lst ys) ∧ P i j ys (del Ha D)
    refine ⟨fun j k Ha => k = n1 - j ∧ j ≤ n1 ∧ Pj j Ha, ⟨n1, by simp, Nat.zero_le _, xs, Ext.refl _, e4 _ _ hx, up _ _ _ _ _ (ext_del e4) hp⟩, ?_⟩
    rintro j k Ha ⟨rfl, hj, ys, ea, hy, hpj⟩
    have ea2 : Ext (del H4 D) Ha := ea.trans del_ext
    have q1 := hG1 Ha ea2
    by_cases hl1 : j < n1
    · refine .inr ⟨w1.goes j Ha hl1 q1, Pj (j + 1), fun H' p' => ⟨n1 - (j + 1), by omega, rfl, hl1, p'⟩, fun x1 Hb y1 => ?_⟩
      refine hst j x1 Ha Hb ys hl1 ea2 hy (w1.yields j Ha x1 Hb hl1 q1 y1) hpj _ _ ?_ ?_
      · intro v H5 e5 k
        exact ⟨ys, e5 _ _ hy, hlen _ _ _ _ hpj, ys ++ [v], by rw [del_upd]; exact ea.trans (ext_del e5), upd_same, by rw [del_upd]; exact k⟩
      · intro H5 e5 k
        exact ⟨ys, ea.trans (ext_del e5), e5 _ _ hy, k⟩
    · have ej : j = n1 := by omega
      subst ej
      exact .inl ⟨w1.stops Ha q1, ys, e14.trans ea2, hy, hend _ _ hpj⟩
  · have ei : i = n := by omega
    subst ei
    exact .inl ⟨w.stops H q, hd H xs e hx (up _ _ _ _ _ del_ext hp)⟩
/-- of one clause, in the same words -/
theorem lc1_acc {J : It} {n : Nat} {G : Hp → Prop} {Y : Nat → Hp → V → Hp → Prop} (w : Walk J n G Y) {g : TG} {tt : TT} {te : TE} {vs : List Nat} {σ : L2.St} {H1 : Hp} {D : Addr} {Qd : Hp → Prop}
    (P : Nat → List V → Hp → Prop) (up : ∀ i xs H H', Ext H H' → P i xs H → P i xs H') (h0 : P 0 [] H1) (hD : H1 D = none)
    (hlen : ∀ i xs H, P i xs H → xs.length < sizeLine) (hG : ∀ H, Ext H1 H → G H)
    (hs : ∀ i x H H' xs, i < n → Ext H1 H → H D = some (.lst xs) → Y i H x H' → P i xs (del H D) →
      ∀ (QY : V → Hp → Prop) (QN : Hp → Prop),
        (∀ y H4, Ext H H4 → P (i + 1) (xs ++ [y]) (del H4 D) → QY y H4) →
        (∀ H4, Ext H H4 → P (i + 1) xs (del H4 D) → QN H4) →
        g x (wipe σ vs) H' fun σ2 H2 => wipe σ2 vs = wipe σ vs ∧ tt σ2 H2 fun b H3 => if b = true then te σ2 H3 QY else QN H3)
    (hd : ∀ H xs, Ext H1 H → H D = some (.lst xs) → P n xs H → Qd H) :
    ∃ W : Nat → Nat → Hp → Prop, (∃ m, W 0 m (upd H1 D (.lst []))) ∧ ∀ i m H, W i m H →
      (J.stop i H ∧ Qd H) ∨ (J.go i H ∧ ∃ Nx : Hp → Prop, (∀ H', Nx H' → ∃ m', m' < m ∧ W (i + 1) m' H') ∧ ∀ x H', J.yld i H x H' → g x (wipe σ vs) H' fun σ2 H2 => wipe σ2 vs = wipe σ vs ∧ tt σ2 H2 fun b H3 =>
        if b = true then te σ2 H3 fun y H4 => ∃ acc, H4 D = some (.lst acc) ∧ acc.length < sizeLine ∧ Nx (upd H4 D (.lst (acc ++ [y]))) else Nx H3) := by
  have e1 : Ext H1 (upd H1 D (.lst [])) := Ext.new hD
  refine lc_it w (fun i H => ∃ xs, Ext H1 H ∧ H D = some (.lst xs) ∧ P i xs (del H D)) ⟨[], e1, upd_same, up 0 [] _ _ (ext_to e1 hD) h0⟩ (by rintro i H _ ⟨xs, e, _⟩; exact hG H e) ?_ ?_
  · rintro i x H H' hi ⟨xs, e, hx, hp⟩ y
    refine hs i x H H' xs hi e hx y hp _ _ ?_ ?_
    · intro v H4 e4 k
      exact ⟨xs, e4 _ _ hx, hlen _ _ _ hp, xs ++ [v], Ext.mut (e.trans e4) hD, upd_same, by rw [del_upd]; exact k⟩
    · intro H4 e4 k
      exact ⟨xs, e.trans e4, e4 _ _ hx, k⟩
  · rintro H ⟨xs, e, hx, hp⟩
    exact hd H xs e hx (up _ _ _ _ del_ext hp)
end Ol

set_option Elab.async false
set_option linter.all false
set_option maxRecDepth 100000
set_option maxHeartbeats 4000000
namespace K28
open PySem PySem.Spec PyProof.Rows L2 Ol RZ
open TL (tl)
section
variable {P : Program} {w : World} {K : PySem.W.Frag} {mg : Str → Option Value} {base : Heap} {C S : Addr}
/-! ### _law_bounds -/
def spBounds : Sp := fun vs H Q _ => ∃ (p an : Addr) (ys : List Str) (g : Int), vs = [.ref p, .ref an, .int g] ∧ 1 ≤ g ∧ g ≤ 3 ∧ Bag H p ∧ H an = some (.lst (ys.map V.str)) ∧ ys.Nodup ∧ ys.length ≤ 3 ∧
  ∀ d H' ps, H d = none → Ext H H' → H' d = some (.dK (kvI ps)) → ps.map (·.1) = ys → (∀ q ∈ ps, 1 ≤ q.2 ∧ q.2 ≤ g) → Q (.ref d) H'
abbrev s_bounds : Stmt := (topS 43)
theorem sc_bounds : FnScope ["_law_bag_here", "_law_names_here", "_law_greatest", "_law_found", "_law_name"] ["_law_bag_here", "_law_names_here", "_law_greatest"] (defScope s_bounds) := ⟨rfl, rfl, rfl, by decide +kernel, rfl, by decide +kernel, by decide +kernel⟩
theorem kvI_none {ps : List (Str × Int)} {x : Str} (h : x ∉ ps.map (·.1)) : valV (kvI ps) (.inr x) = none := by
  refine valV_none fun p hp e => h ?_
  unfold kvI at hp
  obtain ⟨q, hq, rfl⟩ := List.mem_map.mp hp
  have e' : q.1 = x := Sum.inr.inj e
  rw [← e']
  exact List.mem_map_of_mem hq
theorem ok_bounds {f : Addr} {fd : FuncData} (F : Fun K "_law_bounds" "_law_bounds" s_bounds f fd) (T : BT mg) (CT : Ca P w K mg base 1 "_law_take" ["_law_bag_here", "_law_many"] spTake) :
    FnOk P w K mg base CX0 2 f fd ["_law_bag_here", "_law_names_here", "_law_greatest"] spBounds := by
  refine F.ok sc_bounds (fun vs H Q E h => ?_) (fun cdv A outer s H vs Q E hr h => ?_)
  · obtain ⟨p, an, ys, g, rfl, _⟩ := h
    rfl
  · obtain ⟨p, an, ys, g, rfl, hg1, hg3, hB, hN, hnd, hl, q⟩ := h
    refine ⟨_, (pss_cons (ps_set (i := 3) sc_bounds.nd rfl (.inl rfl) pe_dnewK)
    (pss_cons (ps_for PassesOwn.never rfl (pi_list (pv 1)) (pg_name (i := 4) sc_bounds.nd rfl (.inl rfl))
      (pss_one (ps_dput (hu_of hr) (pv 3) (pv 4) (pe_ifExp (pt_cmpR op_gt (pe_callB call_len_seq (by rfl) T.n_len (by decide +kernel) (pa_cons (pv 1) pa_nil)) pe_int (nomark _)) pe_int (pe_op op_add pe_int (pe_ca CT (hr.mono (by decide)) (by rfl) (pa_cons (pv 0) (pa_cons (pv 2) pa_nil))))) rfl)))
    (pss_one (ps_ret (pv 3))))), ?_⟩
    intro d hd
    have e0 := Ext.new (o := .dK []) hd
    have ml : (ys.map V.str).length = ys.length := List.length_map ..
    refine ⟨_, rfl, an, rfl, ⟨_, SqL.of (e0 _ _ hN)⟩, ?_⟩
    refine for_list (xs := ys.map V.str) (fun i σ H' => ∃ v4 ps, σ = [some (.ref p), some (.ref an), some (.int g), some (.ref d), v4] ∧ Ext H H' ∧ H' d = some (.dK (kvI ps)) ∧ ps.map (·.1) = ys.take i ∧ (∀ q ∈ ps, 1 ≤ q.2 ∧ q.2 ≤ g))
      ⟨none, [], rfl, e0, upd_same, rfl, fun q hq => by cases hq⟩ (fun i σ H' _ ⟨_, _, _, e, _⟩ => SqL.of (e _ _ hN)) ?_ ?_
    · rintro i x σ H1 hx ⟨v4, ps, rfl, e, hd1, hps, hb⟩
      have hi : i < ys.length := by have := (List.getElem?_eq_some_iff.mp hx).1; rw [ml] at this; exact this
      rw [List.getElem?_map, List.getElem?_eq_getElem hi] at hx
      cases hx
      have hni : ys[i] ∉ ps.map (·.1) := fun z => by
        rw [hps] at z
        obtain ⟨j, hj, ej⟩ := List.getElem_of_mem z
        rw [List.length_take] at hj
        rw [List.getElem_take] at ej
        exact List.pairwise_iff_getElem.mp hnd j i (by omega) hi (by omega) ej
      have htk : ys.take (i + 1) = ys.take i ++ [ys[i]] := by rw [List.take_add_one, List.getElem?_eq_getElem hi]; rfl
      have hpl : ps.length ≤ 3 := by have := congrArg List.length hps; rw [List.length_map, List.length_take] at this; omega
      -- what is stored
      have put : ∀ (z : Int) (H2 : Hp), Ext H H2 → H2 d = some (.dK (kvI ps)) → 1 ≤ z → z ≤ g →
          ∃ ps', (upd H2 d (.dK (putK (kvI ps) (.inr ys[i]) (.int z)))) d = some (.dK (kvI ps')) ∧ ps'.map (·.1) = ys.take (i + 1) ∧ (∀ q ∈ ps', 1 ≤ q.2 ∧ q.2 ≤ g) := by
        intro z H2 e2 h2 z1 z3
        refine ⟨ps ++ [(ys[i], z)], ?_, ?_, ?_⟩
        · rw [upd_same, putK_new (kvI_none hni)]
          unfold kvI
          rw [List.map_append]
          rfl
        · rw [List.map_append, hps, htk]
          rfl
        · intro q hq
          rcases List.mem_append.mp hq with h | h
          · exact hb q h
          · rw [List.mem_singleton.mp h]; exact ⟨z1, z3⟩
      refine ⟨_, rfl, an, _, rfl, .inl (SqL.of (e _ _ hN)), _, _, rfl, rfl, _, rfl, ?_⟩
      refine ite2 (fun _ => ?_) (fun _ => ?_)
      · obtain ⟨ps', g1', g2, g3⟩ := put 1 H1 e hd1 (by decide) hg1
        exact ⟨_, rfl, _, rfl, d, _, rfl, DPut.k (k := Sum.inr ys[i]) hd1 (by unfold kvI; rw [List.length_map]; exact Nat.lt_of_le_of_lt hpl (by decide)), _, ps', rfl, Ext.mut e hd, g1', g2, g3⟩
      · refine ⟨_, rfl, _, rfl, p, g, rfl, hB.up e, by omega, by omega, fun r r0 r1 => ?_⟩
        obtain ⟨ps', g1', g2, g3⟩ := put (1 + r) H1 e hd1 (by omega) (by omega)
        exact ⟨_, _, rfl, rfl, _, rfl, _, rfl, d, _, rfl, DPut.k (k := Sum.inr ys[i]) hd1 (by unfold kvI; rw [List.length_map]; exact Nat.lt_of_le_of_lt hpl (by decide)), _, ps', rfl, Ext.mut e hd, g1', g2, g3⟩
    · rintro σ H' ⟨v4, ps, rfl, e, hd1, hps, hb⟩
      rw [ml, List.take_length] at hps
      exact ⟨_, rfl, q d H' ps hd e hd1 hps hb⟩
end
end K28

set_option Elab.async false
set_option linter.all false
set_option maxRecDepth 100000
set_option maxHeartbeats 4000000
namespace K28
open PySem PySem.Spec PyProof.Rows L2 Ol RZ
open TL (tl)
def words4 : List Str := ["close", "ended", "send", "take"]
theorem DqAll_snoc {H : Hp} : ∀ {xs : List V} {ds : List PyData} {v : V} {d : PyData}, DqAll H xs ds → Dq H v d → DqAll H (xs ++ [v]) (ds ++ [d])
  | _, _, _, _, .nil, h => .cons h .nil
  | _, _, _, _, .cons a t, h => .cons a (DqAll_snoc t h)
section
variable {P : Program} {w : World} {K : PySem.W.Frag} {mg : Str → Option Value} {base : Heap}
def wordsV : List V := [.str "close", .str "ended", .str "send", .str "take"]
theorem inV_words (x : Str) : inV (.str x) wordsV = isWordS x := by
  show ((("close" : Str) == x) || ((("ended" : Str) == x) || ((("send" : Str) == x) || ((("take" : Str) == x) || false)))) = isWordS x
  unfold isWordS
  rw [Bool.eq_iff_iff]
  simp only [Bool.or_eq_true, beq_iff_eq, decide_eq_true_eq, Bool.or_false]
  constructor
  · rintro (h | h | h | h)
    · exact Or.inl h.symm
    · exact Or.inr (Or.inl h.symm)
    · exact Or.inr (Or.inr (Or.inl h.symm))
    · exact Or.inr (Or.inr (Or.inr h.symm))
  · rintro (h | h | h | h)
    · exact Or.inl h.symm
    · exact Or.inr (Or.inl h.symm)
    · exact Or.inr (Or.inr (Or.inl h.symm))
    · exact Or.inr (Or.inr (Or.inr h.symm))
theorem kS_no {d : PyData} (h : ¬ kS d = true) : isWordD d = false ∧ isElseD d = false ∧ isNameD d = false := by
  cases d with
  | str x => exact absurd rfl h
  | _ => exact ⟨rfl, rfl, rfl⟩

abbrev s_is_word : Stmt := (topS 18)
theorem sc_is_word : FnScope ["thing"] ["thing"] (defScope s_is_word) := ⟨rfl, rfl, rfl, by decide +kernel, rfl, by decide +kernel, by decide +kernel⟩
theorem ok_is_word {f : Addr} {fd : FuncData} (F : Fun K "is_word" "is_word" s_is_word f fd) (T : BT mg) {aW : Addr} (gW : mg "WORDS" = some (.ref aW)) (hW : ∀ H, SqT K H aW wordsV) :
    FnOk P w K mg base CX0 1 f fd ["thing"] (spPred Any isWordD) := by
  refine F.ok sc_is_word (fun vs H Q E h => ?_) (fun cdv A outer s H vs Q E hr h => ?_)
  · obtain ⟨v, d, rfl, _⟩ := h
    rfl
  · obtain ⟨v, d, rfl, hd, hz, q⟩ := h
    have q' := q H (Ext.refl H)
    refine ⟨_, (pss_one (ps_ret (pe_and (pe_callB call_isi (by rfl) T.n_isinstance (by decide +kernel) (pa_cons (pv 0) (pa_cons (pe_bltn (v := .ty "str") (by rfl) T.n_str (by decide +kernel) rfl) pa_nil))) (pe_one (pe_cmpR op_in_seq (pv 0) (pe_glob (v := .ref aW) rfl gW rfl) (by rfl)))))), ?_⟩
    refine ⟨_, rfl, _, _, _, _, _, rfl, .ty "str", ty_of hd, ki_str d, _, rfl, ?_⟩
    refine ite2 (fun h => ?_) (fun h => ?_)
    · obtain ⟨x, rfl, rfl⟩ := dq_str hd h
      refine ⟨_, rfl, aW, _, rfl, .inr (hW _), rfl, by decide +kernel, ?_⟩
      have e : (if false = true then !inV (.str x) wordsV else inV (.str x) wordsV) = isWordD (.str x) := by
        rw [if_neg Bool.false_ne_true, inV_words]
        rfl
      rw [e]
      exact q'
    · rw [(kS_no h).1] at q'
      exact q'

abbrev s_is_arm : Stmt := (topS 20)
theorem sc_is_arm : FnScope ["thing"] ["thing"] (defScope s_is_arm) := ⟨rfl, rfl, rfl, by decide +kernel, rfl, by decide +kernel, by decide +kernel⟩
theorem kT_not {d : PyData} (h : (!kT d) = true) : isArmD d = false := by
  cases d with
  | tuple ds => cases h
  | _ => rfl
theorem kT_yes {d : PyData} (h : ¬ (!kT d) = true) : kT d = true := by
  cases e : kT d with
  | true => rfl
  | false => rw [e] at h; exact absurd rfl h
theorem isArm_len {ds : List PyData} (h2 : ds.length ≠ 2) (h3 : ds.length ≠ 3) : isArmD (.tuple ds) = false := by
  match ds, h2, h3 with
  | [], _, _ => rfl
  | [_], _, _ => rfl
  | [_, _], h, _ => exact absurd rfl h
  | [_, _, _], _, h => exact absurd rfl h
  | _ :: _ :: _ :: _ :: _, _, _ => rfl
theorem two_of {H : Hp} {xs : List V} {ds : List PyData} (t : DqAll H xs ds) (h : xs.length = 2) : ∃ v0 v1 d0 d1, xs = [v0, v1] ∧ ds = [d0, d1] ∧ Dq H v0 d0 ∧ Dq H v1 d1 := by
  cases t with
  | nil => cases h
  | cons a t => cases t with
    | nil => cases h
    | cons b t => cases t with
      | nil => exact ⟨_, _, _, _, rfl, rfl, a, b⟩
      | cons c t => simp at h
theorem three_of {H : Hp} {xs : List V} {ds : List PyData} (t : DqAll H xs ds) (h : xs.length = 3) : ∃ v0 v1 v2 d0 d1 d2, xs = [v0, v1, v2] ∧ ds = [d0, d1, d2] ∧ Dq H v0 d0 ∧ Dq H v1 d1 ∧ Dq H v2 d2 := by
  cases t with
  | nil => cases h
  | cons a t => cases t with
    | nil => cases h
    | cons b t => cases t with
      | nil => cases h
      | cons c t => cases t with
        | nil => exact ⟨_, _, _, _, _, _, rfl, rfl, a, b, c⟩
        | cons e t => simp at h
theorem ok_is_arm {f : Addr} {fd : FuncData} (F : Fun K "is_arm" "is_arm" s_is_arm f fd) (T : BT mg)
    (C2 : Ca P w K mg base 2 "is_number" ["thing"] (spPred Any isNumD)) (C3 : Ca P w K mg base 1 "is_name" ["thing"] (spPred Ok1 isNameD)) (C4 : Ca P w K mg base 1 "is_word" ["thing"] (spPred Any isWordD)) :
    FnOk P w K mg base CX0 3 f fd ["thing"] (spPred OkT isArmD) := by
  refine F.ok sc_is_arm (fun vs H Q E h => ?_) (fun cdv A outer s H vs Q E hr h => ?_)
  · obtain ⟨v, d, rfl, _⟩ := h
    rfl
  · obtain ⟨v, d, rfl, hd, hz, q⟩ := h
    refine ⟨_, (pss_cons (ps_if (pt_not (pt_val (pe_callB call_isi (by rfl) T.n_isinstance (by decide +kernel) (pa_cons (pv 0) (pa_cons (pe_bltn (v := .ty "tuple") (by rfl) T.n_tuple (by decide +kernel) rfl) pa_nil)))))
      (pss_one (ps_ret pe_bl))
      pss_nil)
    (pss_cons (ps_if (pt_cmpR op_eq (pe_callB call_len_seq (by rfl) T.n_len (by decide +kernel) (pa_cons (pv 0) pa_nil)) pe_int (nomark _))
      (pss_one (ps_ret (pe_and (pe_callB call_isi (by rfl) T.n_isinstance (by decide +kernel) (pa_cons (pe_ix ix_tup (pv 0) pe_int (fun _ _ => rfl)) (pa_cons (pe_bltn (v := .ty "str") (by rfl) T.n_str (by decide +kernel) rfl) pa_nil))) (pe_and (pe_cmpR op_eq (pe_ix ix_tup (pv 0) pe_int (fun _ _ => rfl)) pe_str (nomark _)) (pe_one (pe_ca C2 (hr.mono (by decide)) (by rfl) (pa_cons (pe_ix ix_tup (pv 0) pe_int (fun _ _ => rfl)) pa_nil)))))))
      pss_nil)
    (pss_one (ps_ret (pe_and (pe_cmpR op_eq (pe_callB call_len_seq (by rfl) T.n_len (by decide +kernel) (pa_cons (pv 0) pa_nil)) pe_int (nomark _)) (pe_and (pe_ca C4 (hr.mono (by decide)) (by rfl) (pa_cons (pe_ix ix_tup (pv 0) pe_int (fun _ _ => rfl)) pa_nil)) (pe_and (pe_ca C3 (hr.mono (by decide)) (by rfl) (pa_cons (pe_ix ix_tup (pv 0) pe_int (fun _ _ => rfl)) pa_nil)) (pe_one (pe_ca C2 (hr.mono (by decide)) (by rfl) (pa_cons (pe_ix ix_tup (pv 0) pe_int (fun _ _ => rfl)) pa_nil)))))))))), ?_⟩
    refine ⟨_, rfl, _, _, _, _, _, rfl, .ty "tuple", ty_of hd, ki_tuple d, _, rfl, ?_⟩
    refine ite2 (fun h => ?_) (fun h => ?_)
    · have q' := q H (Ext.refl H)
      rw [kT_not h] at q'
      exact q'
    · obtain ⟨a, xs, ds, rfl, rfl, ha, t⟩ := dq_tup hd (kT_yes h)
      have sa : ∀ {H1}, Ext H H1 → SqT K H1 a xs := fun e => SqT.of (e _ _ ha)
      have hl := t.len
      refine ⟨_, rfl, a, _, rfl, .inr (SqT.of ha), rfl, _, rfl, ?_⟩
      refine ite2 (fun h2 => ?_) (fun h2 => ?_)
      · have h2' : xs.length = 2 := by
          have z := of_decide_eq_true h2
          injection z with z
          omega
        obtain ⟨v0, v1, d0, d1, rfl, rfl, t0, t1⟩ := two_of t h2'
        have ea : isArmD (.tuple [d0, d1]) = (isElseD d0 && isNumD d1) := rfl
        rw [ea] at q
        refine ⟨_, rfl, a, _, _, _, rfl, rfl, SqT.of ha, rfl, _, _, _, _, _, rfl, .ty "str", ty_of t0, ki_str d0, _, rfl, ?_⟩
        refine ite2 (fun h0 => ?_) (fun h0 => ?_)
        · obtain ⟨x, rfl, rfl⟩ := dq_str t0 h0
          refine ⟨_, rfl, a, _, _, _, rfl, rfl, SqT.of ha, rfl, rfl, _, rfl, ?_⟩
          refine ite2 (fun h1 => ?_) (fun h1 => ?_)
          · refine ⟨_, rfl, a, _, _, _, rfl, rfl, SqT.of ha, rfl, v1, d1, rfl, t1, trivial, fun H1 e1 => ?_⟩
            have z := q H1 e1
            have e0 : isElseD (.str x) = true := by
              have z := of_decide_eq_true h1
              injection z with z
              exact decide_eq_true z
            rw [e0, Bool.true_and] at z
            exact z
          · have z := q H (Ext.refl H)
            have e0 : isElseD (.str x) = false := decide_eq_false fun z => h1 (decide_eq_true (by rw [z]))
            rw [e0, Bool.false_and] at z
            exact z
        · have z := q H (Ext.refl H)
          rw [(kS_no h0).2.1, Bool.false_and] at z
          exact z
      · have h2' : xs.length ≠ 2 := fun z => h2 (decide_eq_true (by rw [z]; rfl))
        refine ⟨_, rfl, a, _, rfl, .inr (SqT.of ha), rfl, _, rfl, ?_⟩
        refine ite2 (fun h3 => ?_) (fun h3 => ?_)
        · have h3' : xs.length = 3 := by
            have z := of_decide_eq_true h3
            injection z with z
            omega
          obtain ⟨v0, v1, v2, d0, d1, d2, rfl, rfl, t0, t1, t2⟩ := three_of t h3'
          have ea : isArmD (.tuple [d0, d1, d2]) = (isWordD d0 && (isNameD d1 && isNumD d2)) := rfl
          rw [ea] at q
          refine ⟨_, rfl, a, _, _, _, rfl, rfl, SqT.of ha, rfl, v0, d0, rfl, t0, trivial, fun H1 e1 => ⟨_, rfl, ?_⟩⟩
          refine ite2 (fun g0 => ?_) (fun g0 => ?_)
          · rw [g0, Bool.true_and] at q
            refine ⟨_, rfl, a, _, _, _, rfl, rfl, sa e1, rfl, v1, d1, rfl, t1.up e1, hz _ _ rfl (by simp), fun H2 e2 => ⟨_, rfl, ?_⟩⟩
            refine ite2 (fun g1 => ?_) (fun g1 => ?_)
            · rw [g1, Bool.true_and] at q
              refine ⟨_, rfl, a, _, _, _, rfl, rfl, sa (e1.trans e2), rfl, v2, d2, rfl, t2.up (e1.trans e2), trivial, fun H3 e3 => ?_⟩
              exact q H3 ((e1.trans e2).trans e3)
            · have z := q H2 (e1.trans e2)
              rw [Bool.eq_false_iff.mpr g1, Bool.false_and] at z
              exact z
          · have z := q H1 e1
            rw [Bool.eq_false_iff.mpr g0, Bool.false_and] at z
            exact z
        · have h3' : xs.length ≠ 3 := fun z => h3 (decide_eq_true (by rw [z]; rfl))
          have z := q H (Ext.refl H)
          rw [isArm_len (by omega) (by omega)] at z
          exact z
end
end K28

set_option Elab.async false
set_option linter.all false
set_option maxRecDepth 100000
set_option maxHeartbeats 4000000
namespace Ol
open PySem PySem.Spec PyProof.Rows L2

theorem lt_anti : ∀ a b : List Nat, ltCps a b = false → ltCps b a = false → a = b
  | [], [], _, _ => rfl
  | [], _ :: _, h, _ => by cases h
  | _ :: _, [], _, h => by cases h
  | a :: r, b :: t, h1, h2 => by
    unfold ltCps at h1 h2
    simp only [Bool.or_eq_false_iff, decide_eq_false_iff_not, Bool.and_eq_false_iff, beq_eq_false_iff_ne] at h1 h2
    have e : a = b := by omega
    subst e
    have r1 : ltCps r t = false := h1.2.resolve_left (fun z => z rfl)
    have r2 : ltCps t r = false := h2.2.resolve_left (fun z => z rfl)
    rw [lt_anti r t r1 r2]
theorem lt_trans : ∀ x y z : List Nat, ltCps y x = false → ltCps z y = false → ltCps z x = false
  | [], _, [], _, _ => rfl
  | [], _, _ :: _, _, _ => rfl
  | _ :: _, [], _, h, _ => by cases h
  | _ :: _, _ :: _, [], _, h => by cases h
  | c :: r, b :: t, d :: u, h1, h2 => by
    unfold ltCps at h1 h2 ⊢
    simp only [Bool.or_eq_false_iff, decide_eq_false_iff_not, Bool.and_eq_false_iff, beq_eq_false_iff_ne] at h1 h2 ⊢
    refine ⟨by omega, ?_⟩
    by_cases e : d = c
    · right
      have e1 : b = c := by omega
      have e2 : d = b := by omega
      exact lt_trans r t u (h1.2.resolve_left (fun z => z e1)) (h2.2.resolve_left (fun z => z e2))
    · exact .inl e
theorem rising_pw : ∀ (p : Str) (l : List Str), risingS p l = true → (p :: l).Pairwise (fun a b => ltCps b.cps.toList a.cps.toList = false)
  | p, [], _ => by simp
  | p, x :: r, h => by
    unfold risingS at h
    rw [Bool.and_eq_true, Bool.not_eq_true'] at h
    have ih := rising_pw x r h.2
    refine List.pairwise_cons.mpr ⟨fun y hy => ?_, ih⟩
    rcases List.mem_cons.mp hy with rfl | hy
    · exact h.1
    · exact lt_trans _ _ _ h.1 (List.rel_of_pairwise_cons ih hy)
theorem sorted_pw : ∀ l : List Str, sortedS l = true → l.Pairwise (fun a b => ltCps b.cps.toList a.cps.toList = false)
  | [], _ => .nil
  | x :: r, h => rising_pw x r h
theorem sorted_one {xs ys : List Str} (h1 : sortedS xs = true) (h2 : sortedS ys = true) (hp : xs.Perm ys) : xs = ys :=
  List.Perm.eq_of_pairwise (fun a b _ _ q1 q2 => by
    have e : a.cps.toList = b.cps.toList := lt_anti _ _ q2 q1
    cases a with | mk a => cases b with | mk b => have e2 : a = b := Array.toList_inj.mp e; rw [e2]) (sorted_pw _ h1) (sorted_pw _ h2) hp

/-! ### data without dicts -/
mutual
inductive Nd : PyData → Prop
  | non : Nd .none
  | bl (b : Bool) : Nd (.bool b)
  | int (i : Int) : Nd (.int i)
  | str (x : Str) : Nd (.str x)
  | lst {ds : List PyData} : NdAll ds → Nd (.list ds)
  | tup {ds : List PyData} : NdAll ds → Nd (.tuple ds)
inductive NdAll : List PyData → Prop
  | nil : NdAll []
  | cons {d : PyData} {ds : List PyData} : Nd d → NdAll ds → NdAll (d :: ds)
end
theorem NdAll.of : ∀ {ds : List PyData}, (∀ d ∈ ds, Nd d) → NdAll ds
  | [], _ => .nil
  | d :: ds, h => .cons (h d List.mem_cons_self) (NdAll.of fun e he => h e (List.mem_cons_of_mem _ he))
mutual
theorem Dq.off {H : Hp} {p : Addr} {kv : List (Key × V)} (hp : H p = some (.dK kv)) : ∀ {v : V} {d : PyData}, Dq H v d → Nd d → Dq (del H p) v d
  | _, _, .non, _ => .non
  | _, _, .bl b, _ => .bl b
  | _, _, .int i, _ => .int i
  | _, _, .str x, _ => .str x
  | _, _, .lst h t, n => .lst (by rw [del_ne (fun z => by rw [z, hp] at h; cases h)]; exact h) (DqAll.off hp t (by cases n; assumption))
  | _, _, .tup h t, n => .tup (by rw [del_ne (fun z => by rw [z, hp] at h; cases h)]; exact h) (DqAll.off hp t (by cases n; assumption))
  | _, _, .dct h t, n => by cases n
theorem DqAll.off {H : Hp} {p : Addr} {kv : List (Key × V)} (hp : H p = some (.dK kv)) : ∀ {vs : List V} {ds : List PyData}, DqAll H vs ds → NdAll ds → DqAll (del H p) vs ds
  | _, _, .nil, _ => .nil
  | _, _, .cons h t, n => .cons (Dq.off hp h (by cases n; assumption)) (DqAll.off hp t (by cases n; assumption))
end
end Ol

set_option Elab.async false
set_option linter.all false
set_option maxRecDepth 100000
set_option maxHeartbeats 4000000
namespace Ol
open PySem PySem.Spec PyProof.Rows L2
/-- data not in a list of data -/
def rNotInQ : R2 := fun x y H Q => ∃ d ds, Sys H ∧ Dq H x d ∧ Dq H y (.list ds) ∧ SeqAt.shaped d = true ∧ SeqAt.shaped (.list ds) = true ∧ Q (.bl (!ds.any fun z => PyData.eqv z d)) H
theorem op_notInQ {X : Cx} (hu : X.A.units + 65 < cLine) : OpR X (compareOp .NotIn) rNotInQ := by
  intro pins s σ H x y v u Q I rx ry h
  obtain ⟨d, ds, S, hd, he, sd, se, q⟩ := h
  obtain ⟨as, r1, _⟩ := Dq.reads I S hd rx
  obtain ⟨bs, r2, _⟩ := Dq.reads I S he ry
  exact SeqAt.notIn_list_reads r2 r1 (SeqAt.canLay_of_shaped se) (SeqAt.canLay_of_shaped sd) (room_in_shaped sd hu) ⟨.bl _, H, I, rfl, q⟩
end Ol

set_option Elab.async false
set_option linter.all false
set_option maxRecDepth 100000
set_option maxHeartbeats 4000000
namespace K28
open PySem PySem.Spec PyProof.Rows L2 Ol RZ
open TL (tl)
/-! ### sizes -/
theorem nd_st (c : Nat) (b : Bool) : Nd (stD c b) := .tup (.cons (.int _) (.cons (.bl _) .nil))
theorem nd_ct (cs : List (Nat × Bool)) : Nd (ctD cs) := .tup (NdAll.of fun d hd => by
  obtain ⟨s, _, rfl⟩ := List.mem_map.mp hd
  exact nd_st _ _)
theorem nd_all (f : List (List (Nat × Bool))) : Nd (.list (f.map ctD)) := .lst (NdAll.of fun d hd => by
  obtain ⟨s, _, rfl⟩ := List.mem_map.mp hd
  exact nd_ct _)
theorem lay_all : ∀ {ds : List PyData}, (∀ d ∈ ds, d.canLay0 = true) → PyData.canLayAll0 ds = true
  | [], _ => by simp [PyData.canLayAll0]
  | d :: ds, h => by simp [PyData.canLayAll0, h d List.mem_cons_self, lay_all fun e he => h e (List.mem_cons_of_mem _ he)]
theorem lay_shaped {d : PyData} (h : d.canLay0 = true) (hd : d.depth ≤ 64) : SeqAt.shaped d = true := by
  unfold SeqAt.shaped
  rw [h, decide_eq_true hd]
  rfl
theorem lay_st (c : Nat) (b : Bool) : (stD c b).canLay0 = true := by simp [stD, PyData.canLay0, PyData.canLayAll0]
theorem lay_ct (cs : List (Nat × Bool)) : (ctD cs).canLay0 = true := by
  unfold ctD
  rw [PyData.canLay0]
  refine lay_all fun d hd => ?_
  obtain ⟨s, _, rfl⟩ := List.mem_map.mp hd
  exact lay_st _ _
theorem lay_cts (f : List (List (Nat × Bool))) : (PyData.list (f.map ctD)).canLay0 = true := by
  rw [PyData.canLay0]
  refine lay_all fun d hd => ?_
  obtain ⟨s, _, rfl⟩ := List.mem_map.mp hd
  exact lay_ct _
theorem gd_st (c : Nat) (b : Bool) (h : c ≤ 3) : Gd 1 (stD c b) := by
  refine gd_tuple (fun d hd => ?_) (by simp)
  simp only [List.mem_cons, List.not_mem_nil, or_false] at hd
  rcases hd with rfl | rfl
  · have : c = 0 ∨ c = 1 ∨ c = 2 ∨ c = 3 := by omega
    rcases this with rfl | rfl | rfl | rfl <;> exact gd_int _ (by decide +kernel) (by decide +kernel)
  · exact gd_bl b
theorem gd_ct (cs : List (Nat × Bool)) (hl : cs.length ≤ 3) (h : ∀ s ∈ cs, s.1 ≤ 3) : Gd 2 (ctD cs) := by
  refine gd_tuple (fun d hd => ?_) (by unfold ctL; rw [List.length_map]; omega)
  obtain ⟨s, hs, rfl⟩ := List.mem_map.mp hd
  exact gd_st _ _ (h s hs)
theorem fits_list {n : Nat} {ds : List PyData} (h : ∀ d ∈ ds, Gd n d) (hn : n ≤ 3) (h5 : ds.length ≤ 20) : Fits (.list ds) := by
  have h' : ∀ d ∈ ds, Gd 3 d := fun d hd => (h d hd).up hn
  obtain ⟨h1, h2, h3, h4⟩ := all_sh h'
  refine ⟨by simpa [PyData.showable] using h1, by simp only [PyData.depth]; omega, ?_⟩
  simp only [PyData.shown]
  have z := pile_le _ h3
  have z1 := listText_le (PyData.shownAll ds)
  rw [h4] at z
  have z2 : ds.length * (200 * 8 ^ 3 + 2) ≤ 20 * (200 * 8 ^ 3 + 2) := Nat.mul_le_mul_right _ h5
  exact Nat.le_trans (show _ ≤ 20 * (200 * 8 ^ 3 + 2) + 2 by omega) (by decide)
theorem name_gd {x : Str} (h : isNameS x = true) : Gd 0 (.str x) := by
  obtain ⟨h1, h2, h3⟩ := name_tl h
  exact gd_str x (by rw [tlen]; omega) fun c hc => abc_low c (h3 c hc)
theorem name_ok {x : Str} (h : isNameS x = true) : PyData.strOk x = true := by
  obtain ⟨h1, h2, h3⟩ := name_tl h
  unfold PyData.strOk
  rw [Array.all_eq_true_iff_forall_mem]
  intro c hc
  have hc' : c ∈ tl x := Array.mem_toList_iff.mpr hc
  exact decide_eq_true (Nat.lt_of_lt_of_le (abc_low c (h3 c hc')) (by decide))
theorem word_gd : ∀ x ∈ words4, Gd 0 (.str x) := fun x hx => by
  unfold words4 at hx
  simp only [List.mem_cons, List.not_mem_nil, or_false] at hx
  rcases hx with rfl | rfl | rfl | rfl <;> exact gd_str _ (by decide +kernel) (by decide +kernel)
theorem word_ok : ∀ x ∈ words4, PyData.strOk x = true := by decide +kernel
theorem ix_get {ns : List Str} (j : Nat) (hj : j < ns.length) : (ns.map V.str)[j]? = some (.str ns[j]) := by
  rw [List.getElem?_map, List.getElem?_eq_getElem hj]
  rfl
end K28

set_option Elab.async false
set_option linter.all false
set_option maxRecDepth 100000
set_option maxHeartbeats 4000000
namespace Ol
open PySem PySem.Spec PyProof.Rows L2
/-- a class catches its own errors -/
theorem exm_same {K : PySem.W.Frag} {S : Addr} (q1 : PySem.W.subIn K (.ref S) (.type "BaseException") = some true) (q2 : PySem.W.isClsIn K S = true)
    (q3 : PySem.W.typeIn K (.ref S) = some (.type "type")) (q4 : PySem.W.subIn K (.ref S) (.ref S) = some true) : PySem.W.exmOne K (.ref S) (.ref S) = some true := by
  have q5 : (PySem.W.clsIn K S).isSome = true := q2
  unfold PySem.W.exmOne
  simp [PySem.W.kitCls, q1, q3, q4, q5]
end Ol

set_option Elab.async false
set_option linter.all false
set_option maxRecDepth 100000
set_option maxHeartbeats 4000000
namespace K28
open PySem PySem.Spec PyProof.Rows L2 Ol RZ
open TL (tl)
section
variable {P : Program} {w : World} {K : PySem.W.Frag} {mg : Str → Option Value} {base : Heap} {C S N : Addr}
/-! ### _law_state -/
def spLState : Sp := fun vs H Q _ => ∃ (p : Addr) (bd : Int), vs = [.ref p, .int bd] ∧ Bag H p ∧ 1 ≤ bd ∧ bd ≤ 3 ∧
  ∀ (r : V) (H' : Hp) (c : Nat) (b : Bool), Ext H H' → Dq H' r (stD c b) → (c : Int) ≤ bd → Q r H'
abbrev s_lstate : Stmt := (topS 48)
theorem sc_lstate : FnScope ["_law_bag_here", "_law_bound"] ["_law_bag_here", "_law_bound"] (defScope s_lstate) := ⟨rfl, rfl, rfl, by decide +kernel, rfl, by decide +kernel, by decide +kernel⟩
theorem ok_lstate {f : Addr} {fd : FuncData} (F : Fun K "_law_state" "_law_state" s_lstate f fd)
    (CT : Ca P w K mg base 1 "_law_take" ["_law_bag_here", "_law_many"] spTake) :
    FnOk P w K mg base CX0 2 f fd ["_law_bag_here", "_law_bound"] spLState := by
  refine F.ok sc_lstate (fun vs H Q E h => ?_) (fun cdv A outer s H vs Q E hr h => ?_)
  · obtain ⟨p, bd, rfl, _⟩ := h
    rfl
  · obtain ⟨p, bd, rfl, hB, b1, b3, q⟩ := h
    refine ⟨_, (pss_one (ps_ret (pe_tup (pa_cons (pe_ca CT (hr.mono (by decide)) (by rfl) (pa_cons (pv 0) (pa_cons (pe_op op_add (pv 1) pe_int) pa_nil))) (pa_cons (pe_cmpR op_eq (pe_ca CT (hr.mono (by decide)) (by rfl) (pa_cons (pv 0) (pa_cons pe_int pa_nil))) pe_int (nomark _)) pa_nil))))), ?_⟩
    refine ⟨_, rfl, _, rfl, _, _, rfl, rfl, p, bd + 1, rfl, hB, by omega, by omega, fun r r0 r1 => ?_⟩
    refine ⟨_, rfl, p, 3, rfl, hB, by decide, by decide, fun r2 _ _ => ⟨rfl, by show 2 ≤ sizeLine; decide, fun t ht => ?_⟩⟩
    obtain ⟨c, rfl⟩ := Int.eq_ofNat_of_zero_le r0
    exact q _ _ c _ (Ext.new ht) (.tup upd_same (.cons (.int _) (.cons (.bl _) .nil))) (by omega)
/-! ### _law_content -/
/-- a list of states, by names -/
def stOf (ns : List Str) (cs : List (Nat × Bool)) (x : Str) : Nat × Bool := cs.getD (ns.idxOf x) (0, false)
theorem stOf_at {ns : List Str} {cs : List (Nat × Bool)} (hd : ns.Nodup) (hl : cs.length = ns.length) (i : Nat) (hi : i < ns.length) : stOf ns cs ns[i] = cs[i]'(by omega) := by
  unfold stOf
  rw [hd.idxOf_getElem i hi, List.getD_eq_getElem?_getD, List.getElem?_eq_getElem (by omega)]
  rfl
theorem stOf_map {ns : List Str} {cs : List (Nat × Bool)} (hd : ns.Nodup) (hl : cs.length = ns.length) : ns.map (stOf ns cs) = cs := by
  refine List.ext_getElem (by simp [hl]) fun i h1 h2 => ?_
  rw [List.getElem_map]
  rw [List.length_map] at h1
  exact stOf_at hd hl i h1
def spLContent : Sp := fun vs H Q _ => ∃ (p db : Addr) (ps : List (Str × Int)) (ns : List Str), vs = [.ref p, .ref db] ∧ Bag H p ∧ H db = some (.dK (kvI ps)) ∧ ps.length ≤ 3 ∧
  ns.Perm (ps.map (·.1)) ∧ ns.Nodup ∧ sortedS ns = true ∧ (∀ x ∈ ns, 1 ≤ bdOf ps x ∧ bdOf ps x ≤ 3) ∧
  ∀ (r : V) (H' : Hp) (st : Str → Nat × Bool), Ext H H' → Dq H' r (ctD (ns.map st)) → (∀ x ∈ ns, ((st x).1 : Int) ≤ bdOf ps x) → Q r H'
abbrev s_lcontent : Stmt := (topS 49)
theorem sc_lcontent : FnScope ["_law_bag_here", "_law_bounds_here", "_law_name"] ["_law_bag_here", "_law_bounds_here"] (defScope s_lcontent) := ⟨rfl, rfl, rfl, by decide +kernel, rfl, by decide +kernel, by decide +kernel⟩
theorem ok_lcontent {f : Addr} {fd : FuncData} (F : Fun K "_law_content" "_law_content" s_lcontent f fd) (T : BT mg)
    (CS : Ca P w K mg base 2 "_law_state" ["_law_bag_here", "_law_bound"] spLState) :
    FnOk P w K mg base CX0 3 f fd ["_law_bag_here", "_law_bounds_here"] spLContent := by
  refine F.ok sc_lcontent (fun vs H Q E h => ?_) (fun cdv A outer s H vs Q E hr h => ?_)
  · obtain ⟨p, db, ps, ns, rfl, _⟩ := h
    rfl
  · obtain ⟨p, db, ps, ns, rfl, hB, hdb, hl3, hperm, hnd, hso, hbd, q⟩ := h
    refine ⟨_, (pss_one (ps_ret (pe_callTy call_tuple_of (by rfl) T.n_tuple (by decide +kernel) (pa_cons (pe_lc (own := [("_law_name", 2)]) (g := gName 2) (tt := tYes) rfl sc_lcontent.nd (pi_list (pe_callB (call_sortedD rfl) (by rfl) T.n_sorted (by decide +kernel) (pa_cons (pv 1) pa_nil))) (blkOk_by (N := ["_law_bag_here", "_law_bounds_here", "_law_name"]) (sc := defScope s_lcontent) (by decide +kernel)) (fun _ _ _ _ _ => pg_name (i := 2) sc_lcontent.nd rfl (.inl rfl)) (fun _ _ _ _ _ => pts_nil) (fun _ _ _ _ _ => pe_ca CS (hr.mono (by decide)) (by rfl) (pa_cons (pv 0) (pa_cons (pe_dget (hu_of hr) (pv 1) (pv 2) (fun _ _ => rfl)) pa_nil)))) pa_nil)))), ?_⟩
    have kl : (kvI ps).map (·.1) = (ps.map (·.1)).map Sum.inr := by
      unfold kvI
      rw [List.map_map, List.map_map]
      rfl
    have nl : ns.length ≤ 3 := by rw [hperm.length_eq, List.length_map]; exact hl3
    refine ⟨_, rfl, db, _, _, rfl, Rd.of hdb, kl, (by rw [List.length_map]; omega), fun ys p1 hperm2 hso2 hp1 => ?_⟩
    obtain rfl : ys = ns := sorted_one hso2 hso (hperm2.trans hperm.symm)
    have e3 := Ext.new (o := .lst (ys.map V.str)) hp1
    have ml : (ys.map V.str).length = ys.length := List.length_map ..
    refine ⟨p1, rfl, ⟨_, SqL.of upd_same⟩, fun D hD => ?_⟩
    refine lc1_acc (walk_list (xs := ys.map V.str)) (fun j zs Hz => ∃ cs, DqAll Hz zs (ctL cs) ∧ cs.length = j ∧ zs.length = j ∧ j ≤ 3 ∧ ∀ (k : Nat) (s : Nat × Bool) (x : Str), cs[k]? = some s → ys[k]? = some x → (s.1 : Int) ≤ bdOf ps x)
      (fun _ _ _ _ e ⟨cs, h, r⟩ => ⟨cs, DqAll.up e h, r⟩) ⟨[], .nil, rfl, rfl, by decide, fun k s x h => by simp at h⟩ hD
      (fun j zs Hz ⟨_, _, _, h, h3, _⟩ => Nat.lt_of_le_of_lt (show zs.length ≤ 3 by omega) (by decide)) (fun Hz ez => SqL.of (ez _ _ upd_same)) ?_ ?_
    · rintro j y Ha Hb zs hj ea hya ⟨rfl, hyj⟩ ⟨cs, q1, q2, q3, q4, q5⟩ QY QN kY kN
      rw [ml] at hj
      rw [List.getElem?_map, List.getElem?_eq_getElem hj] at hyj
      cases hyj
      have e0 : Ext H Hb := e3.trans ea
      have hm : ys[j] ∈ ps.map (·.1) := hperm.mem_iff.mp (List.getElem_mem hj)
      obtain ⟨b1, b3⟩ := hbd _ (List.getElem_mem hj)
      have g := DGet.k (k := .inr ys[j]) (e0 _ _ hdb)
      rw [kvI_val hm] at g
      refine ⟨rfl, ?_⟩
      refine tyes ?_
      refine ⟨_, rfl, _, rfl, _, rfl, db, _, rfl, g, p, bdOf ps ys[j], rfl, hB.up e0, b1, b3, fun r H2 c b e2 hr2 hc => ?_⟩
      have hD2 := e2 _ _ hya
      obtain ⟨ar, rfl, har⟩ := st_inv hr2
      have nD : ar ≠ D := fun z => by rw [z, hD2] at har; cases har
      refine kY _ _ e2 ⟨cs ++ [(c, b)], ?_, by rw [List.length_append, q2]; rfl, by rw [List.length_append, q3]; rfl, by omega, fun k s x h1 h2 => ?_⟩
      · unfold ctL
        rw [List.map_append]
        exact DqAll_snoc (DqAll.up (ext_del e2) q1) (.tup (by rw [del_ne nD]; exact har) (.cons (.int _) (.cons (.bl _) .nil)))
      · by_cases hk : k < cs.length
        · rw [List.getElem?_append_left hk] at h1
          exact q5 k s x h1 h2
        · rw [List.getElem?_append_right (by omega)] at h1
          have hk2 : k = j := by
            have := (List.getElem?_eq_some_iff.mp h1).1
            simp at this
            omega
          subst hk2
          rw [q2, Nat.sub_self] at h1
          cases h1
          rw [List.getElem?_eq_getElem hj] at h2
          cases h2
          exact hc
    · rintro H4 zs e4 hzs ⟨cs, q1, q2, q3, q4, q5⟩
      rw [ml] at q2
      refine ⟨D, _, rfl, .inl ⟨SqL.of hzs, fun t ht => ?_⟩⟩
      have e5 := Ext.new (o := .tup zs) ht
      refine q _ _ (stOf ys cs) ((e3.trans e4).trans e5) ?_ (fun x hx => ?_)
      · rw [stOf_map hnd q2]
        exact .tup upd_same (DqAll.up e5 q1)
      · obtain ⟨i, hi, rfl⟩ := List.getElem_of_mem hx
        rw [stOf_at hnd q2 i hi]
        exact q5 i _ _ (List.getElem?_eq_getElem _) (List.getElem?_eq_getElem hi)
end
end K28

set_option Elab.async false
set_option linter.all false
set_option maxRecDepth 100000
set_option maxHeartbeats 4000000
namespace K28
open PySem PySem.Spec PyProof.Rows L2 Ol RZ
open TL (tl)
/-! ### arms and places -/
abbrev Arm := Option (Str × Str) × Nat
def armD : Arm → PyData
  | (some (w, l), g) => .tuple [.str w, .str l, .int g]
  | (none, g) => .tuple [.str "else", .int g]
def GArm (a : Arm) : Prop := match a.1 with
  | some (w, l) => w ∈ words4 ∧ isNameS l = true
  | none => True
abbrev Place := Str × List Arm
def placeD (p : Place) : PyData := .tuple [.str p.1, .tuple (p.2.map armD)]
/-- places of a program with n of them -/
structure GPlace (n : Nat) (p : Place) : Prop where
  mode : p.1 = "first" ∨ p.1 = "any"
  arms : ∀ a ∈ p.2, GArm a ∧ a.2 < n
  els : (p.2.filter fun a => a.1.isNone).length ≤ 1
  few : p.2.length ≤ 5
theorem isArm_of {a : Arm} (h : GArm a) : isArmD (armD a) = true ∧ OkT (armD a) := by
  obtain ⟨o, g⟩ := a
  cases o with
  | none =>
    refine ⟨?_, fun ds e he hm => ?_⟩
    · show (isElseD (.str "else") && isNumD (.int (g : Int))) = true
      have : (0 : Int) ≤ (g : Int) := by omega
      simp [isElseD, isNumD, this]
    · cases he
      simp only [List.mem_cons, List.not_mem_nil, or_false] at hm
      rcases hm with rfl | rfl
      · exact fun y hy => by cases hy; exact ⟨by decide +kernel, by decide +kernel⟩
      · exact nope1 rfl
  | some p =>
    obtain ⟨w, l⟩ := p
    have h' : w ∈ words4 ∧ isNameS l = true := h
    have hw : isWordS w = true := by
      unfold isWordS
      have := h'.1
      unfold words4 at this
      simp only [List.mem_cons, List.not_mem_nil, or_false] at this
      exact decide_eq_true this
    refine ⟨?_, fun ds e he hm => ?_⟩
    · show (isWordD (.str w) && (isNameD (.str l) && isNumD (.int (g : Int)))) = true
      have : (0 : Int) ≤ (g : Int) := by omega
      have e1 : isWordD (.str w) = true := hw
      have e2 : isNameD (.str l) = true := h'.2
      rw [e1, e2]
      simp [isNumD, this]
    · cases he
      simp only [List.mem_cons, List.not_mem_nil, or_false] at hm
      rcases hm with rfl | rfl | rfl
      · exact fun y hy => by
          cases hy
          have := h'.1
          unfold words4 at this
          simp only [List.mem_cons, List.not_mem_nil, or_false] at this
          rcases this with rfl | rfl | rfl | rfl <;> exact ⟨by decide +kernel, by decide +kernel⟩
      · exact fun y hy => by cases hy; exact name_tx h'.2
      · exact nope1 rfl
section
variable {P : Program} {w : World} {K : PySem.W.Frag} {mg : Str → Option Value} {base : Heap} {C : Addr}
/-! ### is_mode -/
def modesV : List V := [.str "any", .str "first"]
def spGood (G : PyData → Prop) : Sp := fun vs H Q _ => ∃ (v : V) (d : PyData), vs = [v] ∧ Dq H v d ∧ G d ∧ ∀ H', Ext H H' → Q (.bl true) H'
abbrev s_mode : Stmt := (topS 19)
theorem sc_mode : FnScope ["thing"] ["thing"] (defScope s_mode) := ⟨rfl, rfl, rfl, by decide +kernel, rfl, by decide +kernel, by decide +kernel⟩
theorem ok_mode {f : Addr} {fd : FuncData} (F : Fun K "is_mode" "is_mode" s_mode f fd) (T : BT mg) {aM : Addr} (gM : mg "MODES" = some (.ref aM)) (hM : ∀ H, SqT K H aM modesV) :
    FnOk P w K mg base CX0 1 f fd ["thing"] (spGood fun d => d = .str "first" ∨ d = .str "any") := by
  refine F.ok sc_mode (fun vs H Q E h => ?_) (fun cdv A outer s H vs Q E hr h => ?_)
  · obtain ⟨v, d, rfl, _⟩ := h
    rfl
  · obtain ⟨v, d, rfl, hd, hg, q⟩ := h
    refine ⟨_, (pss_one (ps_ret (pe_and (pe_callB call_isi (by rfl) T.n_isinstance (by decide +kernel) (pa_cons (pv 0) (pa_cons (pe_bltn (v := .ty "str") (by rfl) T.n_str (by decide +kernel) rfl) pa_nil))) (pe_one (pe_cmpR op_in_seq (pv 0) (pe_glob (v := .ref aM) rfl gM rfl) (by rfl)))))), ?_⟩
    refine ⟨_, rfl, _, _, _, _, _, rfl, .ty "str", ty_of hd, ki_str d, _, rfl, ?_⟩
    have ks : kS d = true := by rcases hg with rfl | rfl <;> rfl
    rw [ks]
    refine iteT ?_
    obtain ⟨x, rfl, rfl⟩ := dq_str hd ks
    refine ⟨_, rfl, aM, _, rfl, .inr (hM _), rfl, by decide +kernel, ?_⟩
    have e : (if false = true then !inV (.str x) modesV else inV (.str x) modesV) = true := by
      rw [if_neg Bool.false_ne_true]
      rcases hg with z | z <;> cases z <;> decide +kernel
    rw [e]
    exact q _ (Ext.refl _)
/-! ### is_row_of -/
def spRow (G : PyData → Prop) (fN : Addr) : Sp := fun vs H Q _ => ∃ (a : Addr) (xs : List V) (ds : List PyData), vs = [.ref a, .ref fN] ∧ (H a = some (.lst xs) ∨ H a = some (.tup xs)) ∧ DqAll H xs ds ∧ (∀ d ∈ ds, G d) ∧ ds.length ≤ 60 ∧ ∀ H', Ext H H' → Q (.bl true) H'
abbrev s_row : Stmt := (topS 21)
theorem sc_row : FnScope ["thing", "is_part", "part"] ["thing", "is_part"] (defScope s_row) := ⟨rfl, rfl, rfl, by decide +kernel, rfl, by decide +kernel, by decide +kernel⟩
theorem kit_lt : PySem.W.kitAny K (.type "list") [.type "list", .type "tuple"] = some true :=
  kitAny_cons (kit_ty (by decide +kernel : kitB "list" "list" = some true)) (fun z => Bool.noConfusion z) (fun _ => rfl)
theorem kit_tt : PySem.W.kitAny K (.type "tuple") [.type "list", .type "tuple"] = some true :=
  kitAny_cons (kit_ty (by decide +kernel : kitB "tuple" "list" = some false)) (fun _ => kitAny_cons (kit_ty (by decide +kernel : kitB "tuple" "tuple" = some true)) (fun z => Bool.noConfusion z) (fun _ => rfl)) (fun z => Bool.noConfusion z)
theorem ok_row {G : PyData → Prop} {k : Nat} {f fN : Addr} {fd fdN : FuncData} (F : Fun K "is_row_of" "is_row_of" s_row f fd) (T : BT mg)
    (FN : FnOk P w K mg base CX0 k fN fdN ["thing"] (spGood G)) (kN : PySem.W.keepIn K (.ref fN) = true) (bN : Binds K fdN ["thing"] []) :
    FnOk P w K mg base CX0 (k + 1) f fd ["thing", "is_part"] (spRow G fN) := by
  refine F.ok sc_row (fun vs H Q E h => ?_) (fun cdv A outer s H vs Q E hr h => ?_)
  · obtain ⟨a, xs, ds, rfl, _⟩ := h
    rfl
  · obtain ⟨a, xs, ds, rfl, ha, hx, hg, hl, q⟩ := h
    have lx : xs.length = ds.length := hx.len
    rcases ha with ha | ha
    · refine ⟨_, (pss_one (ps_ret (pe_and (pe_callB call_isiT (by rfl) T.n_isinstance (by decide +kernel) (pa_cons (pv 0) (pa_cons (pe_tup (pa_cons (pe_bltn (v := .ty "list") (by rfl) T.n_list (by decide +kernel) rfl) (pa_cons (pe_bltn (v := .ty "tuple") (by rfl) T.n_tuple (by decide +kernel) rfl) pa_nil))) pa_nil)))
        (pe_one (pe_callB (cr_all rfl) (by rfl) T.n_all (by decide +kernel) (pa_cons (pe_lc (own := [("part", 2)]) (g := gName 2) (tt := tYes) rfl sc_row.nd (pi_list (pv 0)) (blkOk_by (N := ["thing", "is_part", "part"]) (sc := defScope s_row) (by decide +kernel)) (fun _ _ _ _ _ => pg_name (i := 2) sc_row.nd rfl (.inl rfl)) (fun _ _ _ _ _ => pts_nil)
          (fun _ _ _ _ _ => pe_callL (i := 1) FN (hr.mono (by omega)) rfl (by first | exact .inl rfl | exact .inr (.inl rfl) | exact .inr (.inr rfl)) kN bN .nil pass0 (pa_cons (pv 2) pa_nil))) pa_nil)))))), ?_⟩
      refine ⟨_, rfl, by show 2 ≤ sizeLine; decide, fun tp htp => ?_⟩
      have e1 := Ext.new (o := .tup [.ty "list", .ty "tuple"]) htp
      refine ⟨_, tp, _, _, _, true, rfl, upd_same, .cons (.ty _) (.cons (.ty _) .nil), .base (.lst (e1 _ _ ha)), kit_lt, _, rfl, ?_⟩
      refine iteT ?_
      have ha1 := e1 _ _ ha
      refine ⟨_, rfl, a, rfl, ⟨_, SqL.of ha1⟩, fun D hD => ?_⟩
      refine lc1_acc (walk_list (xs := xs)) (fun i ys _ => ys = List.replicate i (V.bl true) ∧ i ≤ 60) (fun _ _ _ _ _ h => h) ⟨rfl, by decide⟩ hD (fun i ys _ h => by rw [h.1, List.length_replicate]; exact Nat.lt_of_le_of_lt h.2 (by decide)) (fun H' e => SqL.of (e _ _ ha1)) ?_ ?_
      · rintro i x Hi H' ys hi e hy ⟨rfl, hxi⟩ ⟨hp, _⟩ QY QN kY kN
        have hi2 : i < ds.length := by omega
        obtain ⟨x', hx', dx⟩ := DqAll_get hx i ds[i] (List.getElem?_eq_getElem hi2)
        rw [hxi] at hx'
        cases hx'
        refine ⟨rfl, ?_⟩
        refine tyes ?_
        refine ⟨rfl, _, rfl, x, ds[i], rfl, dx.up (e1.trans e), hg _ (List.getElem_mem hi2), fun H4 e4 => ?_⟩
        exact kY _ H4 e4 ⟨by rw [hp, List.replicate_succ'], by omega⟩
      · rintro H4 ys e4 hy ⟨hp, _⟩
        refine ⟨D, List.replicate xs.length true, rfl, SqL.of (by rw [hy, hp, List.map_replicate]), ?_⟩
        rw [show (List.replicate xs.length true).all id = true by simp]
        exact q _ (e1.trans e4)
    · refine ⟨_, (pss_one (ps_ret (pe_and (pe_callB call_isiT (by rfl) T.n_isinstance (by decide +kernel) (pa_cons (pv 0) (pa_cons (pe_tup (pa_cons (pe_bltn (v := .ty "list") (by rfl) T.n_list (by decide +kernel) rfl) (pa_cons (pe_bltn (v := .ty "tuple") (by rfl) T.n_tuple (by decide +kernel) rfl) pa_nil))) pa_nil)))
        (pe_one (pe_callB (cr_all rfl) (by rfl) T.n_all (by decide +kernel) (pa_cons (pe_lc (own := [("part", 2)]) (g := gName 2) (tt := tYes) rfl sc_row.nd (pi_tup (pv 0)) (blkOk_by (N := ["thing", "is_part", "part"]) (sc := defScope s_row) (by decide +kernel)) (fun _ _ _ _ _ => pg_name (i := 2) sc_row.nd rfl (.inl rfl)) (fun _ _ _ _ _ => pts_nil)
          (fun _ _ _ _ _ => pe_callL (i := 1) FN (hr.mono (by omega)) rfl (by first | exact .inl rfl | exact .inr (.inl rfl) | exact .inr (.inr rfl)) kN bN .nil pass0 (pa_cons (pv 2) pa_nil))) pa_nil)))))), ?_⟩
      refine ⟨_, rfl, by show 2 ≤ sizeLine; decide, fun tp htp => ?_⟩
      have e1 := Ext.new (o := .tup [.ty "list", .ty "tuple"]) htp
      refine ⟨_, tp, _, _, _, true, rfl, upd_same, .cons (.ty _) (.cons (.ty _) .nil), .base (.tup (e1 _ _ ha)), kit_tt, _, rfl, ?_⟩
      refine iteT ?_
      have ha1 := e1 _ _ ha
      refine ⟨_, rfl, a, rfl, ⟨_, SqT.of ha1⟩, fun D hD => ?_⟩
      refine lc1_acc (walk_tup (xs := xs)) (fun i ys _ => ys = List.replicate i (V.bl true) ∧ i ≤ 60) (fun _ _ _ _ _ h => h) ⟨rfl, by decide⟩ hD (fun i ys _ h => by rw [h.1, List.length_replicate]; exact Nat.lt_of_le_of_lt h.2 (by decide)) (fun H' e => SqT.of (e _ _ ha1)) ?_ ?_
      · rintro i x Hi H' ys hi e hy ⟨rfl, hxi⟩ ⟨hp, _⟩ QY QN kY kN
        have hi2 : i < ds.length := by omega
        obtain ⟨x', hx', dx⟩ := DqAll_get hx i ds[i] (List.getElem?_eq_getElem hi2)
        rw [hxi] at hx'
        cases hx'
        refine ⟨rfl, ?_⟩
        refine tyes ?_
        refine ⟨rfl, _, rfl, x, ds[i], rfl, dx.up (e1.trans e), hg _ (List.getElem_mem hi2), fun H4 e4 => ?_⟩
        exact kY _ H4 e4 ⟨by rw [hp, List.replicate_succ'], by omega⟩
      · rintro H4 ys e4 hy ⟨hp, _⟩
        refine ⟨D, List.replicate xs.length true, rfl, SqL.of (by rw [hy, hp, List.map_replicate]), ?_⟩
        rw [show (List.replicate xs.length true).all id = true by simp]
        exact q _ (e1.trans e4)
/-! ### is_place, is_else -/
abbrev GA : PyData → Prop := fun d => ∃ a, GArm a ∧ d = armD a
abbrev GP : PyData → Prop := fun d => ∃ n p, GPlace n p ∧ d = placeD p
abbrev s_place : Stmt := (topS 28)
theorem sc_place : FnScope ["thing"] ["thing"] (defScope s_place) := ⟨rfl, rfl, rfl, by decide +kernel, rfl, by decide +kernel, by decide +kernel⟩
theorem place_inv {H : Hp} {v : V} {p : Place} (h : Dq H v (placeD p)) : ∃ a t xs, v = .ref a ∧ H a = some (.tup [.str p.1, .ref t]) ∧ H t = some (.tup xs) ∧ DqAll H xs (p.2.map armD) := by
  obtain ⟨a, xs, ds, rfl, e, h1, h2⟩ := dq_tup h rfl
  unfold placeD at e
  cases e
  cases h2 with
  | cons a1 t1 => cases t1 with
    | cons a2 t2 =>
      cases t2
      cases a1
      obtain ⟨t, ys, es, rfl, e2, h3, h4⟩ := dq_tup a2 rfl
      cases e2
      exact ⟨a, t, ys, rfl, h1, h3, h4⟩
theorem ok_place {f fA : Addr} {fd : FuncData} (F : Fun K "is_place" "is_place" s_place f fd) (T : BT mg) (gA : mg "is_arm" = some (.ref fA))
    (CM : Ca P w K mg base 1 "is_mode" ["thing"] (spGood fun d => d = .str "first" ∨ d = .str "any")) (CR : Ca P w K mg base 4 "is_row_of" ["thing", "is_part"] (spRow GA fA)) :
    FnOk P w K mg base CX0 5 f fd ["thing"] (spGood GP) := by
  refine F.ok sc_place (fun vs H Q E h => ?_) (fun cdv A outer s H vs Q E hr h => ?_)
  · obtain ⟨v, d, rfl, _⟩ := h
    rfl
  · obtain ⟨v, d, rfl, hd, ⟨n, p, hp, rfl⟩, q⟩ := h
    obtain ⟨a, t, xs, rfl, ha, ht, hx⟩ := place_inv hd
    refine ⟨_, (pss_cons (ps_if (PW.pt (pw_or (pt_not (pt_val (pe_callB call_isiT (by rfl) T.n_isinstance (by decide +kernel) (pa_cons (pv 0) (pa_cons (pe_tup (pa_cons (pe_bltn (v := .ty "list") (by rfl) T.n_list (by decide +kernel) rfl) (pa_cons (pe_bltn (v := .ty "tuple") (by rfl) T.n_tuple (by decide +kernel) rfl) pa_nil))) pa_nil))))) (pw_or1 (pt_cmpR op_ne (pe_callB call_len_seq (by rfl) T.n_len (by decide +kernel) (pa_cons (pv 0) pa_nil)) pe_int (nomark _))))) (pss_one (ps_ret pe_bl)) pss_nil)
      (pss_one (ps_ret (pe_and (pe_ca CM (hr.mono (by decide)) (by rfl) (pa_cons (pe_ix ix_tup (pv 0) pe_int (fun _ _ => rfl)) pa_nil)) (pe_one (pe_ca CR (hr.mono (by decide)) (by rfl) (pa_cons (pe_ix ix_tup (pv 0) pe_int (fun _ _ => rfl)) (pa_cons (pe_glob (v := .ref fA) rfl gA rfl) pa_nil)))))))), ?_⟩
    refine ⟨_, rfl, by show 2 ≤ sizeLine; decide, fun tp htp => ?_⟩
    have e1 := Ext.new (o := .tup [.ty "list", .ty "tuple"]) htp
    refine ⟨_, tp, _, _, _, true, rfl, upd_same, .cons (.ty _) (.cons (.ty _) .nil), .base (.tup (e1 _ _ ha)), kit_tt, _, rfl, ?_⟩
    refine iteF ?_
    refine ⟨_, rfl, a, _, rfl, .inr (SqT.of (e1 _ _ ha)), rfl, _, rfl, ?_⟩
    refine iteF ?_
    refine ⟨_, rfl, a, _, _, _, rfl, rfl, SqT.of (e1 _ _ ha), rfl, _, _, rfl, .str _, ?_, fun H2 e2 => ⟨_, rfl, ?_⟩⟩
    · rcases hp.mode with z | z
      · exact .inl (by rw [z])
      · exact .inr (by rw [z])
    refine iteT ?_
    have e12 := e1.trans e2
    refine ⟨_, rfl, a, _, _, _, rfl, rfl, SqT.of (e12 _ _ ha), rfl, t, xs, p.2.map armD, rfl, .inr (e12 _ _ ht), DqAll.up e12 hx, fun d hd => ?_, by rw [List.length_map]; have := hp.few; omega, fun H3 e3 => q _ (e12.trans e3)⟩
    obtain ⟨b, hb, rfl⟩ := List.mem_map.mp hd
    exact ⟨b, (hp.arms b hb).1, rfl⟩
def spElse : Sp := fun vs H Q _ => ∃ (v : V) (a : Arm), vs = [v] ∧ Dq H v (armD a) ∧ Q (.bl a.1.isNone) H
abbrev s_else : Stmt := (topS 29)
theorem sc_else : FnScope ["arm"] ["arm"] (defScope s_else) := ⟨rfl, rfl, rfl, by decide +kernel, rfl, by decide +kernel, by decide +kernel⟩
theorem ok_else {f : Addr} {fd : FuncData} (F : Fun K "is_else" "is_else" s_else f fd) (T : BT mg) :
    FnOk P w K mg base CX0 1 f fd ["arm"] spElse := by
  refine F.ok sc_else (fun vs H Q E h => ?_) (fun cdv A outer s H vs Q E hr h => ?_)
  · obtain ⟨v, a, rfl, _⟩ := h
    rfl
  · obtain ⟨v, a, rfl, hd, q⟩ := h
    refine ⟨_, (pss_one (ps_ret (pe_cmpR op_eq (pe_callB call_len_seq (by rfl) T.n_len (by decide +kernel) (pa_cons (pv 0) pa_nil)) pe_int (nomark _)))), ?_⟩
    obtain ⟨o, g⟩ := a
    cases o with
    | none =>
      obtain ⟨b, xs, ds, rfl, e, h1, h2⟩ := dq_tup (d := .tuple [.str "else", .int (g : Int)]) hd rfl
      cases e
      have l := h2.len
      refine ⟨_, rfl, b, _, rfl, .inr (SqT.of h1), rfl, ?_⟩
      rw [l]
      exact q
    | some p =>
      obtain ⟨b, xs, ds, rfl, e, h1, h2⟩ := dq_tup (d := .tuple [.str p.1, .str p.2, .int (g : Int)]) hd rfl
      cases e
      have l := h2.len
      refine ⟨_, rfl, b, _, rfl, .inr (SqT.of h1), rfl, ?_⟩
      rw [l]
      exact q
end
end K28

set_option Elab.async false
set_option linter.all false
set_option maxRecDepth 100000
set_option maxHeartbeats 8000000
namespace Ol
open PySem PySem.Spec PyProof.Rows L2
/-! ### {k: v for t0 in i0 if .. for t1 in i1 if ..} -/
abbrev DC2 (kx vx t0 i0 : Expr) (f0 : List Expr) (t1 i1 : Expr) (f1 : List Expr) (scope : Scope) (pos : Pos) : Expr := .DictComp kx vx [⟨t0, i0, f0, 0⟩, ⟨t1, i1, f1, 0⟩] scope pos
/-- a clause's tests, one after the other -/
abbrev Asks (fs : List Expr) (env : Env) : Sem Bool := forIn fs true fun c r => if r = true then do let ok ← isTrue c env (eval c env); pure (ForInStep.yield ok) else pure (ForInStep.yield r)
section
variable {kx vx t0 i0 t1 i1 : Expr} {f0 f1 : List Expr} {scope : Scope} {pos : Pos} {env : Env}
theorem first_turn (it : Value) (D : Addr) : compTurn (DC2 kx vx t0 i0 f0 t1 i1 f1 scope pos) 0 it (.ref D) env = (do
    standAt i0.pos
    match ← pyNext it with
    | none => pure (.done .next)
    | some v =>
      letOwnedTupleGo t0 it v
      assign t0 env v
      let mut ok := true
      for c in f0 do
        if ok then ok ← isTrue c env (eval c env)
      if ok then
        let x ← eval i1 env
        standAt i1.pos
        let x ← foldedSetIterable i1 env x
        let _ ← runOwn (.compStart (DC2 kx vx t0 i0 f0 t1 i1 f1 scope pos) 1 (← holding [x] (pyIter x)) (.ref D) env) env
      again (.compLoop (DC2 kx vx t0 i0 f0 t1 i1 f1 scope pos) 0 it (.ref D) env)) := by rfl
theorem second_turn (it : Value) (D : Addr) : compTurn (DC2 kx vx t0 i0 f0 t1 i1 f1 scope pos) 1 it (.ref D) env = (do
    standAt i1.pos
    match ← pyNext it with
    | none => pure (.done .next)
    | some v =>
      letOwnedTupleGo t1 it v
      assign t1 env v
      let mut ok := true
      for c in f1 do
        if ok then ok ← isTrue c env (eval c env)
      if ok then
        (do
          let kv ← eval kx env
          let vv ← holding [kv] (eval vx env)
          standAt { kx.pos with endLine := vx.pos.endLine, endCol := vx.pos.endCol }
          holding [kv, vv] (dictSet D kv vv))
      again (.compLoop (DC2 kx vx t0 i0 f0 t1 i1 f1 scope pos) 1 it (.ref D) env)) := by rfl
variable {prog : Program} {w : World} {A : Around} {R : Result → Shared → Prop} {s : Shared} {it : Value} {D : Addr}
/-- where an error of the block goes -/
abbrev Bad (prog : Program) (w : World) (A : Around) (env : Env) (R : Result → Shared → Prop) : Value → Shared → Prop := notedBy (model prog w) A env fun e s2 => R (.error e) s2
theorem first_loop (plain : ∀ x, foldedSetIterable i1 env x = pure x) (St : Nat → Shared → Prop)
    (turn : ∀ n s, St n s → wpAny (model prog w) A (pyNext it) (fun got s1 => match got with
      | none => R (.ok .next) s1
      | some v => wpAny (model prog w) A (letOwnedTupleGo t0 it v) (fun _ s2 => wpAny (model prog w) A (assign t0 env v) (fun _ s3 =>
          wpAny (model prog w) A (Asks f0 env) (fun ok s4 =>
            if ok = true then
              wpAny (model prog w) A (eval i1 env) (fun x s5 => wpAny (model prog w) A (pyIter x) (fun it1 s6 =>
                codeAny (model prog w) A (.compStart (DC2 kx vx t0 i0 f0 t1 i1 f1 scope pos) 1 it1 (.ref D) env) (fun r s7 => match r with
                  | .ok _ => ∃ m, m < n ∧ St m s7
                  | .error _ => False) s6) (Bad prog w A env R) s5) (Bad prog w A env R) s4
            else ∃ m, m < n ∧ St m s4) (Bad prog w A env R) s3) (Bad prog w A env R) s2) (Bad prog w A env R) s1) (Bad prog w A env R) s)
    (n : Nat) (start : St n s) : codeAny (model prog w) A (.compLoop (DC2 kx vx t0 i0 f0 t1 i1 f1 scope pos) 0 it (.ref D) env) R s := by
  refine codeAny_loop rfl St ?_ n start
  intro n s now
  show wpAny _ A ((compTurn (DC2 kx vx t0 i0 f0 t1 i1 f1 scope pos) 0 it (.ref D) env).onRaise (fun x => do noteFrame x env; theTreesLotGoes x)) _ _ s
  apply wpAny_noted
  rw [first_turn]
  apply wpAny_bind; apply wpAny_standAt; apply wpAny_bind
  apply wpAny_mono (turn n s now) _ (fun _ _ z => z)
  intro got s1 q1
  cases got with
  | none => exact wpAny_pure q1
  | some v =>
    apply wpAny_bind; apply wpAny_mono q1 _ (fun _ _ z => z); intro _ s2 q2
    apply wpAny_bind; apply wpAny_mono q2 _ (fun _ _ z => z); intro _ s3 q3
    apply wpAny_bind; apply wpAny_mono q3 _ (fun _ _ z => z); intro ok s4 q4
    cases ok with
    | false => exact wpAny_pure ⟨rfl, q4⟩
    | true =>
      apply wpAny_bind; apply wpAny_mono q4 _ (fun _ _ z => z); intro x s5 q5
      apply wpAny_bind; apply wpAny_standAt; apply wpAny_bind; apply wpAny_of_eq (plain x)
      apply wpAny_bind; apply wpAny_holding; apply wpAny_mono q5 _ (fun _ _ z => z); intro it1 s6 q6
      refine wpAny_bind (wpAny_runOwn ?_)
      rw [Around.mark_none]
      apply codeAny_mono q6
      intro r s7 q7
      cases r with
      | error e => exact q7.elim
      | ok f => first | exact wpAny_pure ⟨rfl, q7⟩ | exact wpAny_bind (wpAny_pure (wpAny_pure ⟨rfl, q7⟩))
theorem second_loop (St : Nat → Shared → Prop)
    (turn : ∀ n s, St n s → wpAny (model prog w) A (pyNext it) (fun got s1 => match got with
      | none => R (.ok .next) s1
      | some v => wpAny (model prog w) A (letOwnedTupleGo t1 it v) (fun _ s2 => wpAny (model prog w) A (assign t1 env v) (fun _ s3 =>
          wpAny (model prog w) A (Asks f1 env) (fun ok s4 =>
            if ok = true then
              wpAny (model prog w) A (eval kx env) (fun kv s5 => wpAny (model prog w) A (eval vx env) (fun vv s6 =>
                wpAny (model prog w) A (dictSet D kv vv) (fun _ s7 => ∃ m, m < n ∧ St m s7) (Bad prog w A env R) s6) (Bad prog w A env R) s5) (Bad prog w A env R) s4
            else ∃ m, m < n ∧ St m s4) (Bad prog w A env R) s3) (Bad prog w A env R) s2) (Bad prog w A env R) s1) (Bad prog w A env R) s)
    (n : Nat) (start : St n s) : codeAny (model prog w) A (.compLoop (DC2 kx vx t0 i0 f0 t1 i1 f1 scope pos) 1 it (.ref D) env) R s := by
  refine codeAny_loop rfl St ?_ n start
  intro n s now
  show wpAny _ A ((compTurn (DC2 kx vx t0 i0 f0 t1 i1 f1 scope pos) 1 it (.ref D) env).onRaise (fun x => do noteFrame x env; theTreesLotGoes x)) _ _ s
  apply wpAny_noted
  rw [second_turn]
  apply wpAny_bind; apply wpAny_standAt; apply wpAny_bind
  apply wpAny_mono (turn n s now) _ (fun _ _ z => z)
  intro got s1 q1
  cases got with
  | none => exact wpAny_pure q1
  | some v =>
    apply wpAny_bind; apply wpAny_mono q1 _ (fun _ _ z => z); intro _ s2 q2
    apply wpAny_bind; apply wpAny_mono q2 _ (fun _ _ z => z); intro _ s3 q3
    apply wpAny_bind; apply wpAny_mono q3 _ (fun _ _ z => z); intro ok s4 q4
    cases ok with
    | false => exact wpAny_pure ⟨rfl, q4⟩
    | true =>
      apply wpAny_bind; apply wpAny_bind; apply wpAny_mono q4 _ (fun _ _ z => z); intro kv s5 q5
      apply wpAny_bind; apply wpAny_holding; apply wpAny_mono q5 _ (fun _ _ z => z); intro vv s6 q6
      apply wpAny_bind; apply wpAny_standAt; apply wpAny_holding; apply wpAny_mono q6 _ (fun _ _ z => z); intro _ s7 q7
      exact wpAny_pure ⟨rfl, q7⟩
/-- the second clause begins -/
theorem second_start (own : codeAny (model prog w) A (.compLoop (DC2 kx vx t0 i0 f0 t1 i1 f1 scope pos) 1 it (.ref D) env) R s)
    (anew : wpAny (model prog w) A (pyIter it) (fun it2 s2 => codeAny (model prog w) A (.compLoop (DC2 kx vx t0 i0 f0 t1 i1 f1 scope pos) 1 it2 (.ref D) env) R s2) (Bad prog w A env R) s) :
    codeAny (model prog w) A (.compStart (DC2 kx vx t0 i0 f0 t1 i1 f1 scope pos) 1 it (.ref D) env) R s := by
  apply codeAny_of_tree
  show wpAny _ _ ((compStart (DC2 kx vx t0 i0 f0 t1 i1 f1 scope pos) 1 it (.ref D) env).onRaise (fun x => do noteFrame x env; standAt theWindowsPlace)) _ _ s
  apply wpAny_notedAt
  unfold compStart
  show wpAny _ _ (ask >>= _) _ _ s
  apply wpAny_bind; apply wpAny_askSetting; apply wpAny_ite
  split
  · first
      | exact wpAny_bind (wpAny_pure (wpAny_pure ⟨rfl, own⟩))
      | exact wpAny_pure ⟨rfl, own⟩
  · apply wpAny_bind; apply wpAny_rule
    show wpAny _ _ (standAt i1.pos >>= _) _ _ s
    apply wpAny_bind; apply wpAny_standAt; apply wpAny_bind
    apply wpAny_mono anew _ (fun _ _ z => z)
    intro it2 s2 q2
    exact wpAny_pure ⟨rfl, q2⟩
end
end Ol

set_option Elab.async false
set_option linter.all false
set_option maxRecDepth 100000
set_option maxHeartbeats 16000000
namespace Ol
open PySem PySem.Spec PyProof.Rows L2
/-- a dict comprehension of two clauses: the outer walk's measure W, for each of its things the inner walk's V; keys are ints or texts -/
def tDc2 (wi : TI) (g : TG) (tt : TT) (wi1 : TI) (g1 : TG) (tt1 : TT) (tk tv : TE) (vs vs1 : List Nat) : TE := fun σ H Q => wi σ H fun J Ha => ∀ D, Ha D = none → ∃ W : Nat → Nat → Hp → Prop, (∃ m, W 0 m (upd Ha D (.dK []))) ∧ ∀ i m Hb, W i m Hb →
  (J.stop i Hb ∧ Q (.ref D) Hb) ∨ (J.go i Hb ∧ ∃ On : Hp → Prop, (∀ Hc, On Hc → ∃ m2, m2 < m ∧ W (i + 1) m2 Hc) ∧ ∀ x Hc, J.yld i Hb x Hc → g x (wipe σ vs) Hc fun σ2 Hd => wipe σ2 vs = wipe σ vs ∧ tt σ2 Hd fun b He =>
    if b = true then wi1 σ2 He fun J1 Hf => ∃ V1 : Nat → Nat → Hp → Prop, (∃ k, V1 0 k Hf) ∧ ∀ j k Hg, V1 j k Hg →
      (J1.stop j Hg ∧ On Hg) ∨ (J1.go j Hg ∧ ∃ On1 : Hp → Prop, (∀ Hh, On1 Hh → ∃ k2, k2 < k ∧ V1 (j + 1) k2 Hh) ∧ ∀ y Hh, J1.yld j Hg y Hh → g1 y (wipe σ2 vs1) Hh fun σ3 Hi => wipe σ3 vs1 = wipe σ2 vs1 ∧ tt1 σ3 Hi fun b1 Hj =>
        if b1 = true then tk σ3 Hj fun key Hk => tv σ3 Hk fun val Hl => ∃ kvs k, key = kV k ∧ Hl D = some (.dK kvs) ∧ kvs.length < sizeLine ∧ On1 (upd Hl D (.dK (putK kvs k val))) else On1 Hj)
    else On He)
theorem wipe_apart {σ : L2.St} {vs vs1 : List Nat} (sub : ∀ i ∈ vs1, i ∈ vs) {j : Nat} {v : V} (h : (wipe σ vs)[j]? = some (some v)) : (wipe σ vs1)[j]? = some (some v) := by
  obtain ⟨e, out⟩ := wipe_some h
  rw [wipe_out fun z => out (sub j z)]
  exact e
section
variable {X : Cx}
theorem dc2_core {pins : List (Addr × Obj)} {s : Shared} {σ : L2.St} {H : Hp} {Q : VK} {kx vx t0 i0 t1 i1 : Expr} {f0 f1 : List Expr} {scope : Scope} {own : List (Str × Nat)} {vs1 : List Nat} {pos at_ : Pos} {wi wi1 : TI} {g g1 : TG} {tt tt1 : TT} {tk tv : TE} {use : Option (Value → Sem Unit)} {Qf : Value → Shared → Prop}
    (calm : X.calm = true) (nd : X.N.Nodup) (I : Inv X pins σ H s) (src : PI X t0 i0 wi) (ok : BlkOk X.N X.env.scope scope own) (sub : ∀ i ∈ vs1, i ∈ own.map (·.2))
    (pg : ∀ (s : Shared) (H : Hp) (C : Addr) (cl : List (Str × Addr)) (fp : List Addr), PG (X.blk s H scope (compEnvC scope cl C X.env) fp) t0 g)
    (pt : ∀ (s : Shared) (H : Hp) (C : Addr) (cl : List (Str × Addr)) (fp : List Addr), PTs (X.blk s H scope (compEnvC scope cl C X.env) fp) f0 tt)
    (src1 : ∀ (s : Shared) (H : Hp) (C : Addr) (cl : List (Str × Addr)) (fp : List Addr), PI (X.blk s H scope (compEnvC scope cl C X.env) fp) t1 i1 wi1)
    (pg1 : ∀ (s : Shared) (H : Hp) (C : Addr) (cl : List (Str × Addr)) (fp : List Addr), PG (X.blk s H scope (compEnvC scope cl C X.env) fp) t1 g1)
    (pt1 : ∀ (s : Shared) (H : Hp) (C : Addr) (cl : List (Str × Addr)) (fp : List Addr), PTs (X.blk s H scope (compEnvC scope cl C X.env) fp) f1 tt1)
    (pk : ∀ (s : Shared) (H : Hp) (C : Addr) (cl : List (Str × Addr)) (fp : List Addr), PE (X.blk s H scope (compEnvC scope cl C X.env) fp) kx tk)
    (pw : ∀ (s : Shared) (H : Hp) (C : Addr) (cl : List (Str × Addr)) (fp : List Addr), PE (X.blk s H scope (compEnvC scope cl C X.env) fp) vx tv)
    (plain : ∀ x, foldedSetIterable i0 X.env x = pure x) (plain1 : ∀ env x, foldedSetIterable i1 env x = pure x)
    (h : tDc2 wi g tt wi1 g1 tt1 tk tv (own.map (·.2)) vs1 σ H Q)
    (done : ∀ D C s2 ns H2, Inv X pins σ H2 s2 → Q (.ref D) H2 → s2.heap.Ns C ns → FpOk X pins H2 C → compPost (model X.prog X.w) X.A X.xe use Qf (.ref D) C (.ok .next) s2) :
    wpAny (model X.prog X.w) X.A (comprehension (DC2 kx vx t0 i0 f0 t1 i1 f1 scope pos) scope X.env at_ newDict false (eval i0 X.env) use) Qf X.xe s := by
  have cells : ∀ y ∈ scope.names, y.2 = .free → ∃ c, X.env.cells.lookup y.1 = some c := by
    intro y my free
    exact I.ok.has _ (ok.free y my free)
  apply wpAny_comprehension_free (use := use) rfl plain (closure_ok cells) ok.kind (fun y my free => by rw [ok.uniq y my, free])
  apply thn (src.run pins s σ H _ I h)
  intro seen sa at_src
  apply thn at_src
  rintro itv s2 ⟨it, fp, tn, J, H2, rfl, I2, T, place, foot, q⟩
  refine wpAny_newObj_type (newEnv_comp ?_)
  generalize atD : s2.heap.objs.size = D
  obtain ⟨W, ⟨m0, w0⟩, go_on⟩ := q D (I2.hok.fresh (Nat.le_of_eq atD))
  -- the dict, empty
  generalize made : ({ s2 with heap := s2.heap.push { cls := .type "dict", data := .dict #[] } } : Shared) = s3
  have heap3 : s3.heap = s2.heap.push { cls := .type "dict", data := .dict #[] } := by rw [← made]
  have stays : ∀ b o, s2.heap.get? b = some o → s3.heap.get? b = some o := fun b o z => by
    rw [heap3]
    exact Heap.get?_push_of_some _ z
  have I3 : Inv X pins σ (upd H2 D (.dK [])) s3 := by
    rw [← made]
    apply I2.laid (t' := s2.toks) (fun b o z => Heap.get?_push_of_some _ z) (Nat.le_of_eq atD)
    rw [← atD]
    exact dk_empty s2.heap I2.big
  have foot3 : ∀ b ∈ fp, FpOk X pins (upd H2 D (.dK [])) b ∧ b < s3.heap.objs.size := by
    intro b mb
    obtain ⟨o, got, _⟩ := T.obj _ _ place b mb
    have lt := Heap.lt_size got
    have ne : b ≠ D := atD ▸ Nat.ne_of_lt lt
    constructor
    · exact ⟨by rw [upd_ne ne]; exact (foot b mb).1, (foot b mb).2⟩
    · rw [heap3, Heap.size_push]
      exact Nat.lt_succ_of_lt lt
  have place3 : tn 0 s3.heap := T.keep _ _ _ place fun b _ o z => stays b o z
  have I4 := block_start I3 ok nd foot3
  generalize ecl : cellsFrom (s3.heap.objs.size + 1) scope.names (cloFrom X.env.cells scope.names []) = cl at I4
  have pg := pg s3 (upd H2 D (.dK [])) s3.heap.objs.size cl fp
  have pt := pt s3 (upd H2 D (.dK [])) s3.heap.objs.size cl fp
  have src1 := src1 s3 (upd H2 D (.dK [])) s3.heap.objs.size cl fp
  have pg1 := pg1 s3 (upd H2 D (.dK [])) s3.heap.objs.size cl fp
  have pt1 := pt1 s3 (upd H2 D (.dK [])) s3.heap.objs.size cl fp
  have pk := pk s3 (upd H2 D (.dK [])) s3.heap.objs.size cl fp
  have pw := pw s3 (upd H2 D (.dK [])) s3.heap.objs.size cl fp
  show codeAny _ _ (.compStart (DC2 kx vx t0 i0 f0 t1 i1 f1 scope pos) 0 (.ref it) (.ref D) (compEnvC scope cl s3.heap.objs.size X.env)) (compPost (model X.prog X.w) X.A X.xe use Qf (.ref D) s3.heap.objs.size) { s3 with heap := pushCells (s3.heap.push { cls := .type "dict", data := .dict #[] }) scope.names }
  have blank : ∀ b ∈ fp, (upd H2 D (.dK [])) b = none := fun b mb => (foot3 b mb).1.1
  generalize ece : compEnvC scope cl s3.heap.objs.size X.env = ce at I4 pg pt src1 pg1 pt1 pk pw ⊢
  have here : ce.locals = s3.heap.objs.size := by subst ece; rfl
  generalize e3 : upd H2 D (.dK []) = H3 at I3 I4 pg pt src1 pg1 pt1 pk pw w0 blank foot3
  generalize e4 : ({ s3 with heap := pushCells (s3.heap.push { cls := .type "dict", data := .dict #[] }) scope.names } : Shared) = s4 at I4 ⊢
  have place4 : tn 0 s4.heap := T.keep _ _ _ place3 fun b _ o z => by
    rw [← e4]
    exact pushCells_keeps _ _ _ _ (Heap.get?_push_of_some _ z)
  have foots : ∀ {σ' : L2.St} {H' : Hp} {s' : Shared}, Inv (X.blk s3 H3 scope ce fp) [] σ' H' s' → (∀ b ∈ fp, H' b = none) → ∀ b ∈ fp, FpOk (X.blk s3 H3 scope ce fp) [] H' b := by
    intro σ' H' s' I' no b mb
    have ex := I'.ok.exf b mb
    refine ⟨no b mb, ex.1, I'.ok.exfs b mb, .inl mb, fun x c z => ex.2 x c z, ?_⟩
    intro p mp
    have mp' : p ∈ ([] : List (Addr × Obj)) ++ [] := mp
    simp at mp'
  have whole : codeAny (model X.prog X.w) X.A (.compLoop (DC2 kx vx t0 i0 f0 t1 i1 f1 scope pos) 0 (.ref it) (.ref D) ce) (compPost (model X.prog X.w) X.A X.xe use Qf (.ref D) s3.heap.objs.size) s4 := by
    refine first_loop (plain1 ce) (fun n s' => ∃ i H', Inv (X.blk s3 H3 scope ce fp) [] (wipe σ (own.map (·.2))) H' s' ∧ tn i s'.heap ∧ (∀ b ∈ fp, H' b = none) ∧ W i n H') ?_ m0 ⟨0, H3, I4, place4, blank, w0⟩
    rintro n s5 ⟨i, H5, I5, p5, b5, w5⟩
    rcases go_on i n H5 w5 with ⟨stop, fin⟩ | ⟨go, On, next, step⟩
    · apply thnF (T.done (X.blk s3 H3 scope ce fp) rfl rfl rfl calm i [] s5 _ H5 (fun _ _ => False) I5 (foots I5 b5) p5 stop)
      rintro got s6 ⟨rfl, I6⟩
      have I7 : Inv X pins σ H5 s6 := I3.call' (ch := fp) I6.os I6.base I6.hok I6.bare fun b mb =>
        let z := (foot3 b mb).1.2
        ⟨z.2.2.1, z.1, z.2.2.2.1, z.2.2.2.2⟩
      have none_here : H5 s3.heap.objs.size = none := by
        have z : H5 ce.locals = none := I6.free
        exact here ▸ z
      obtain ⟨ns, at_ns, _⟩ := I6.loc
      have at_ns : s6.heap.Ns ce.locals ns := at_ns
      rw [here] at at_ns
      exact done D s3.heap.objs.size s6 ns H5 I7 fin at_ns (I3.fpOk (Nat.le_refl _) none_here)
    · apply thnF (T.item (X.blk s3 H3 scope ce fp) rfl rfl rfl calm i [] s5 _ H5 (fun _ _ => False) I5 (foots I5 b5) p5 go)
      rintro got s6 ⟨u, rfl, at_u⟩
      apply thnF at_u
      rintro _ s7 ⟨x, H7, I7, rx, y7, p7, b7⟩
      apply thnF (pg.run _ s7 _ H7 x u _ (I7.pinned (foots I7 b7) (T.obj _ _ p7)) rx (step x H7 y7))
      rintro _ s8 ⟨σ8, H8, I8, hw, q8⟩
      apply thnF (pt.run _ s8 σ8 H8 _ I8 q8)
      rintro b s9 ⟨H9, I9, q9⟩
      -- back at the outer walk
      have back : ∀ {σ9 : L2.St} {s' : Shared} {H' : Hp}, Inv (X.blk s3 H3 scope ce fp) ([] ++ pinsAt fp s7.heap) σ9 H' s' → (wipe σ (own.map (·.2))).length = σ9.length →
          (∀ (j : Nat) v, (wipe σ (own.map (·.2)))[j]? = some (some v) → σ9[j]? = some (some v)) → On H' → ∃ m, m < n ∧ ∃ i H', Inv (X.blk s3 H3 scope ce fp) [] (wipe σ (own.map (·.2))) H' s' ∧ tn i s'.heap ∧ (∀ b ∈ fp, H' b = none) ∧ W i m H' := by
        intro σ9 s' H' I' len know on
        obtain ⟨m, lt, w'⟩ := next H' on
        have pinned : ∀ c ∈ fp, ∀ o, s7.heap.get? c = some o → s'.heap.get? c = some o ∧ H' c = none := by
          intro c mc o got
          have z := I'.pin (c, o) (List.mem_append_right _ (List.mem_append_right _ (mem_pinsAt mc got)))
          exact ⟨z.1, z.2.1⟩
        refine ⟨m, lt, i + 1, H', (I'.unpinned (pins := [])).weak len know, T.keep _ _ _ p7 (fun c mc o got => (pinned c mc o got).1), ?_, w'⟩
        intro c mc
        obtain ⟨o, got, _⟩ := T.obj _ _ p7 c mc
        exact (pinned c mc o got).2
      have len8 : (wipe σ (own.map (·.2))).length = σ8.length := hw ▸ wipe_length σ8 _
      have know8 : ∀ (j : Nat) v, (wipe σ (own.map (·.2)))[j]? = some (some v) → σ8[j]? = some (some v) := by
        intro j v z
        rw [← hw] at z
        exact (wipe_some z).1
      have know9 : ∀ (j : Nat) v, (wipe σ (own.map (·.2)))[j]? = some (some v) → (wipe σ8 vs1)[j]? = some (some v) := by
        intro j v z
        rw [← hw] at z
        exact wipe_apart sub z
      by_cases yes : b = true
      case neg =>
        rw [if_neg yes] at q9 ⊢
        exact back I9 len8 know8 q9
      rw [if_pos yes] at q9 ⊢
      apply thnF (src1.run _ s9 σ8 H9 _ I9 q9)
      intro seen1 sb at1
      apply thnF at1
      rintro itv1 s11 ⟨it1, fp1, tn1, J1, H11, rfl, I11, T1, p11, foot1, V1, ⟨m1, w1⟩, turn1⟩
      have foots1 : ∀ {H' : Hp}, (∀ c ∈ fp1, H' c = none) → ∀ c ∈ fp1, FpOk (X.blk s3 H3 scope ce fp) ([] ++ pinsAt fp s7.heap) H' c := fun no c mc => ⟨no c mc, (foot1 c mc).2⟩
      have inner : codeAny (model X.prog X.w) X.A (.compLoop (DC2 kx vx t0 i0 f0 t1 i1 f1 scope pos) 1 (.ref it1) (.ref D) ce)
          (fun r s' => match r with
            | .ok _ => ∃ m, m < n ∧ ∃ i H', Inv (X.blk s3 H3 scope ce fp) [] (wipe σ (own.map (·.2))) H' s' ∧ tn i s'.heap ∧ (∀ b ∈ fp, H' b = none) ∧ W i m H'
            | .error _ => False) s11 := by
        refine second_loop (fun k s' => ∃ j H', Inv (X.blk s3 H3 scope ce fp) ([] ++ pinsAt fp s7.heap) (wipe σ8 vs1) H' s' ∧ tn1 j s'.heap ∧ (∀ c ∈ fp1, H' c = none) ∧ V1 j k H') ?_ m1
          ⟨0, H11, I11.weak (wipe_length _ _) (fun j v z => (wipe_some z).1), p11, fun c mc => (foot1 c mc).1, w1⟩
        rintro k s12 ⟨j, H12, I12, p12, b12, w12⟩
        rcases turn1 j k H12 w12 with ⟨stop1, on⟩ | ⟨go1, On1, next1, step1⟩
        · apply thnF (T1.done (X.blk s3 H3 scope ce fp) rfl rfl rfl calm j _ s12 (wipe σ8 vs1) H12 (fun _ _ => False) I12 (foots1 b12) p12 stop1)
          rintro got s13 ⟨rfl, I13⟩
          exact back I13 (len8.trans (wipe_length σ8 vs1).symm) know9 on
        · apply thnF (T1.item (X.blk s3 H3 scope ce fp) rfl rfl rfl calm j _ s12 (wipe σ8 vs1) H12 (fun _ _ => False) I12 (foots1 b12) p12 go1)
          rintro got s13 ⟨u1, rfl, at_u1⟩
          apply thnF at_u1
          rintro _ s14 ⟨x1, H14, I14, rx1, y14, p14, b14⟩
          apply thnF (pg1.run _ s14 (wipe σ8 vs1) H14 x1 u1 _ (I14.pinned (foots1 b14) (T1.obj _ _ p14)) rx1 (step1 x1 H14 y14))
          rintro _ s15 ⟨σ15, H15, I15, hw15, q15⟩
          apply thnF (pt1.run _ s15 σ15 H15 _ I15 q15)
          rintro b1 s16 ⟨H16, I16, q16⟩
          have back1 : ∀ {s' : Shared} {H' : Hp}, Inv (X.blk s3 H3 scope ce fp) (([] ++ pinsAt fp s7.heap) ++ pinsAt fp1 s14.heap) σ15 H' s' → On1 H' →
              ∃ m, m < k ∧ ∃ j H', Inv (X.blk s3 H3 scope ce fp) ([] ++ pinsAt fp s7.heap) (wipe σ8 vs1) H' s' ∧ tn1 j s'.heap ∧ (∀ c ∈ fp1, H' c = none) ∧ V1 j m H' := by
            intro s' H' I' on1
            obtain ⟨m, lt, w'⟩ := next1 H' on1
            have pinned : ∀ c ∈ fp1, ∀ o, s14.heap.get? c = some o → s'.heap.get? c = some o ∧ H' c = none := by
              intro c mc o got
              have z := I'.pin (c, o) (List.mem_append_right _ (List.mem_append_right _ (mem_pinsAt mc got)))
              exact ⟨z.1, z.2.1⟩
            refine ⟨m, lt, j + 1, H', I'.unpinned.weak (by rw [← hw15, wipe_length]) ?_, T1.keep _ _ _ p14 (fun c mc o got => (pinned c mc o got).1), ?_, w'⟩
            · intro l v z
              rw [← hw15] at z
              exact (wipe_some z).1
            · intro c mc
              obtain ⟨o, got, _⟩ := T1.obj _ _ p14 c mc
              exact (pinned c mc o got).2
          by_cases yes1 : b1 = true
          case neg =>
            rw [if_neg yes1] at q16 ⊢
            exact back1 I16 q16
          rw [if_pos yes1] at q16 ⊢
          apply thnF (pk.run _ s16 σ15 H16 _ I16 q16)
          rintro uk s17 ⟨key, H17, I17, rk, q17⟩
          apply thnF (pw.run _ s17 σ15 H17 _ I17 q17)
          rintro uv s18 ⟨val, H18, I18, rv, kvs, kk, rfl, hD18, few, on1⟩
          exact d_dictSet (X := X.blk s3 H3 scope ce fp) I18 hD18 few rk rv fun s19 I19 => back1 I19 on1
      exact second_start inner (T1.self X.A 0 _ _ _ p11 inner)
  exact codeAny_compStart_dict whole (T.self X.A 0 _ _ _ place4 whole)
/-- as a value -/
theorem pe_dc2 {kx vx t0 i0 t1 i1 : Expr} {f0 f1 : List Expr} {scope : Scope} {own : List (Str × Nat)} {vs1 : List Nat} {pos : Pos} {wi wi1 : TI} {g g1 : TG} {tt tt1 : TT} {tk tv : TE} (calm : X.calm = true) (nd : X.N.Nodup) (src : PI X t0 i0 wi) (ok : BlkOk X.N X.env.scope scope own) (sub : ∀ i ∈ vs1, i ∈ own.map (·.2))
    (pg : ∀ (s : Shared) (H : Hp) (C : Addr) (cl : List (Str × Addr)) (fp : List Addr), PG (X.blk s H scope (compEnvC scope cl C X.env) fp) t0 g)
    (pt : ∀ (s : Shared) (H : Hp) (C : Addr) (cl : List (Str × Addr)) (fp : List Addr), PTs (X.blk s H scope (compEnvC scope cl C X.env) fp) f0 tt)
    (src1 : ∀ (s : Shared) (H : Hp) (C : Addr) (cl : List (Str × Addr)) (fp : List Addr), PI (X.blk s H scope (compEnvC scope cl C X.env) fp) t1 i1 wi1)
    (pg1 : ∀ (s : Shared) (H : Hp) (C : Addr) (cl : List (Str × Addr)) (fp : List Addr), PG (X.blk s H scope (compEnvC scope cl C X.env) fp) t1 g1)
    (pt1 : ∀ (s : Shared) (H : Hp) (C : Addr) (cl : List (Str × Addr)) (fp : List Addr), PTs (X.blk s H scope (compEnvC scope cl C X.env) fp) f1 tt1)
    (pk : ∀ (s : Shared) (H : Hp) (C : Addr) (cl : List (Str × Addr)) (fp : List Addr), PE (X.blk s H scope (compEnvC scope cl C X.env) fp) kx tk)
    (pw : ∀ (s : Shared) (H : Hp) (C : Addr) (cl : List (Str × Addr)) (fp : List Addr), PE (X.blk s H scope (compEnvC scope cl C X.env) fp) vx tv)
    (plain : ∀ x, foldedSetIterable i0 X.env x = pure x := by intro _; rfl) (plain1 : ∀ env x, foldedSetIterable i1 env x = pure x := by intro _ _; rfl) :
    PE X (DC2 kx vx t0 i0 f0 t1 i1 f1 scope pos) (tDc2 wi g tt wi1 g1 tt1 tk tv (own.map (·.2)) vs1) := by
  constructor
  intro pins s σ H Q I h
  rw [arm_eval_DictComp]
  apply dc2_core (use := none) calm nd I src ok sub pg pt src1 pg1 pt1 pk pw plain plain1 h
  intro D C s2 ns H2 I2 q at_ns f
  refine ⟨ns, at_ns, fun h2 same => ?_⟩
  obtain ⟨z0, z1, _, z3, z4, z5⟩ := f
  exact ⟨.ref D, H2, I2.turned (t' := s2.toks) (fun b o ne z => (same.2 b ne).trans z) z0 z1 z3 z4 z5, rfl, q⟩
theorem sw_dict {kx vx : Expr} {gs : List Comprehension} {scope : Scope} {pos py : Pos} {y : Str} {l : Nat} {env : Env} (fn : env.scope.kind = .function) (loc : env.scope.names.lookup y = some .local) (row : (py.line == pos.line) = true)
    (no : (scope.names.any fun (n, k) => n == y && (k == .local || k == .cell)) = false) : swapsWith (.DictComp kx vx gs scope pos) (some (.Name y py)) l env = pure true := by
  have kind : env.kindOf y = some .local := loc
  have blk : env.blockKind = .function := by
    unfold Env.blockKind
    rw [fn]
    rfl
  unfold swapsWith
  simp only [blk, kind, no, Expr.pos, row]
  rfl
/-- stored in a plain name of the def -/
theorem ps_setDc2 {i : Nat} {y : Str} {py spos : Pos} {kx vx t0 i0 t1 i1 : Expr} {f0 f1 : List Expr} {scope : Scope} {own : List (Str × Nat)} {vs1 : List Nat} {pos : Pos} {wi wi1 : TI} {g g1 : TG} {tt tt1 : TT} {tk tv : TE} (calm : X.calm = true) (nd : X.N.Nodup) (hy : X.N[i]? = some y) (loc : X.env.scope.names.lookup y = some .local)
    (sw : swapsWith (DC2 kx vx t0 i0 f0 t1 i1 f1 scope pos) (some (.Name y py)) spos.line X.env = pure true) (src : PI X t0 i0 wi) (ok : BlkOk X.N X.env.scope scope own) (sub : ∀ i ∈ vs1, i ∈ own.map (·.2))
    (pg : ∀ (s : Shared) (H : Hp) (C : Addr) (cl : List (Str × Addr)) (fp : List Addr), PG (X.blk s H scope (compEnvC scope cl C X.env) fp) t0 g)
    (pt : ∀ (s : Shared) (H : Hp) (C : Addr) (cl : List (Str × Addr)) (fp : List Addr), PTs (X.blk s H scope (compEnvC scope cl C X.env) fp) f0 tt)
    (src1 : ∀ (s : Shared) (H : Hp) (C : Addr) (cl : List (Str × Addr)) (fp : List Addr), PI (X.blk s H scope (compEnvC scope cl C X.env) fp) t1 i1 wi1)
    (pg1 : ∀ (s : Shared) (H : Hp) (C : Addr) (cl : List (Str × Addr)) (fp : List Addr), PG (X.blk s H scope (compEnvC scope cl C X.env) fp) t1 g1)
    (pt1 : ∀ (s : Shared) (H : Hp) (C : Addr) (cl : List (Str × Addr)) (fp : List Addr), PTs (X.blk s H scope (compEnvC scope cl C X.env) fp) f1 tt1)
    (pk : ∀ (s : Shared) (H : Hp) (C : Addr) (cl : List (Str × Addr)) (fp : List Addr), PE (X.blk s H scope (compEnvC scope cl C X.env) fp) kx tk)
    (pw : ∀ (s : Shared) (H : Hp) (C : Addr) (cl : List (Str × Addr)) (fp : List Addr), PE (X.blk s H scope (compEnvC scope cl C X.env) fp) vx tv)
    (plain : ∀ x, foldedSetIterable i0 X.env x = pure x := by intro _; rfl) (plain1 : ∀ env x, foldedSetIterable i1 env x = pure x := by intro _ _; rfl) :
    PS X (.Assign [.Name y py] (DC2 kx vx t0 i0 f0 t1 i1 f1 scope pos) spos) (tAsg (tDc2 wi g tt wi1 g1 tt1 tk tv (own.map (·.2)) vs1) (gName i)) := by
  constructor
  intro pins s σ H D I h
  rw [exec_Assign_Name_used _ _ _ _ sw]
  apply wpAny_bind; apply wpAny_standAt; apply wpAny_bind
  show wpAny _ X.A (do
    let _ ← comprehension (DC2 kx vx t0 i0 f0 t1 i1 f1 scope pos) scope X.env (firstIterPos [⟨t0, i0, f0, 0⟩, ⟨t1, i1, f1, 0⟩] pos) newDict false (eval i0 X.env) (some (assign (.Name y py) X.env))) _ _ s
  apply wpAny_bind
  apply thn (Q := fun _ s2 => SP X pins D .next s2)
  · have h2 : tDc2 wi g tt wi1 g1 tt1 tk tv (own.map (·.2)) vs1 σ H (fun x H1 => gName i x σ H1 D.nx) := h
    apply dc2_core (Qf := fun _ s2 => SP X pins D .next s2) calm nd I src ok sub pg pt src1 pg1 pt1 pk pw plain plain1 h2
    intro L C s2 ns H2 I2 q at_ns f
    obtain ⟨z0, z1, _, z3, z4, z5⟩ := f
    show wpAny _ _ (assign (.Name y py) X.env (.ref L)) _ _ _
    refine wpAny_assign_Name (store_ok2 (v := V.ref L) I2 nd hy (.inl loc) rfl ?_ (.inr loc))
    rintro s3 I3 ⟨c, sb, own⟩
    have apart : C ≠ c := by
      rcases own with z | z
      · rw [z]
        exact z1
      · exact fun e => z4 y c z e.symm
    refine ⟨ns, at_ns.sameBut sb apart, fun h3 same => ?_⟩
    exact ⟨_, H2, I3.turned (t' := s3.toks) (fun b o ne z => (same.2 b ne).trans z) z0 z1 z3 z4 z5, q⟩
  · intro _ s2 q
    exact wpAny_pure (wpAny_pure q)
end
end Ol

set_option Elab.async false
set_option linter.all false
set_option maxRecDepth 100000
set_option maxHeartbeats 4000000
namespace Ol
open PySem PySem.Spec PyProof.Rows L2
/-- what the second clause is to do in turn i of the first one; the dict stands at D -/
def InnerD (P : Nat → Nat → List (Key × V) → Hp → Prop) (D : Addr) (H : Hp) (g1 : TG) (tt1 : TT) (tk tv : TE) (vs1 : List Nat) (i : Nat) (σ2 : L2.St) (J1 : It) (H4 : Hp) : Prop :=
  Ext H H4 ∧ ∃ n1 G1 Y1, Walk J1 n1 G1 Y1 ∧
    (∀ Hz, Ext (del H4 D) Hz → G1 Hz) ∧
    (∀ kvs Hz, P i n1 kvs Hz → P (i + 1) 0 kvs Hz) ∧
    ∀ j y Ha Hb kvs, j < n1 → Ext (del H4 D) Ha → Ha D = some (.dK kvs) → Y1 j Ha y Hb → P i j kvs (del Ha D) →
      ∀ (QY : V → V → Hp → Prop) (QN : Hp → Prop),
        (∀ k v H5, Ext Ha H5 → P i (j + 1) (putK kvs k v) (del H5 D) → QY (kV k) v H5) →
        (∀ H5, Ext Ha H5 → P i (j + 1) kvs (del H5 D) → QN H5) →
        g1 y (wipe σ2 vs1) Hb fun σ3 H5 => wipe σ3 vs1 = wipe σ2 vs1 ∧ tt1 σ3 H5 fun b H6 => if b = true then tk σ3 H6 fun key H7 => tv σ3 H7 fun val H8 => QY key val H8 else QN H6
/-- P holds of both turns, the dict so far, and all that stands but the dict -/
theorem dc2_acc {J : It} {n : Nat} {G : Hp → Prop} {Y : Nat → Hp → V → Hp → Prop} (w : Walk J n G Y) {g : TG} {wi1 : TI} {g1 : TG} {tt1 : TT} {tk tv : TE} {vs vs1 : List Nat} {σ : L2.St} {H1 : Hp} {D : Addr} {Qd : Hp → Prop}
    (P : Nat → Nat → List (Key × V) → Hp → Prop) (up : ∀ i j kvs H H', Ext H H' → P i j kvs H → P i j kvs H') (h0 : P 0 0 [] H1) (hD : H1 D = none)
    (few : ∀ i j kvs H, P i j kvs H → kvs.length < sizeLine) (hG : ∀ H, Ext H1 H → G H)
    (step : ∀ i x H H' kvs, i < n → Ext H1 H → H D = some (.dK kvs) → Y i H x H' → P i 0 kvs (del H D) →
      ∀ R : L2.St → It → Hp → Prop, (∀ σ2 J1 H4, InnerD P D H g1 tt1 tk tv vs1 i σ2 J1 H4 → R σ2 J1 H4) →
      g x (wipe σ vs) H' fun σ2 H2 => wipe σ2 vs = wipe σ vs ∧ wi1 σ2 H2 (R σ2))
    (last : ∀ H kvs, Ext H1 H → H D = some (.dK kvs) → P n 0 kvs H → Qd H) :
    ∃ W : Nat → Nat → Hp → Prop, (∃ m, W 0 m (upd H1 D (.dK []))) ∧ ∀ i m Hb, W i m Hb →
      (J.stop i Hb ∧ Qd Hb) ∨ (J.go i Hb ∧ ∃ On : Hp → Prop, (∀ Hc, On Hc → ∃ m2, m2 < m ∧ W (i + 1) m2 Hc) ∧ ∀ x Hc, J.yld i Hb x Hc → g x (wipe σ vs) Hc fun σ2 Hd => wipe σ2 vs = wipe σ vs ∧ tYes σ2 Hd fun b He =>
        if b = true then wi1 σ2 He fun J1 Hf => ∃ V1 : Nat → Nat → Hp → Prop, (∃ k, V1 0 k Hf) ∧ ∀ j k Hg, V1 j k Hg →
          (J1.stop j Hg ∧ On Hg) ∨ (J1.go j Hg ∧ ∃ On1 : Hp → Prop, (∀ Hh, On1 Hh → ∃ k2, k2 < k ∧ V1 (j + 1) k2 Hh) ∧ ∀ y Hh, J1.yld j Hg y Hh → g1 y (wipe σ2 vs1) Hh fun σ3 Hi => wipe σ3 vs1 = wipe σ2 vs1 ∧ tt1 σ3 Hi fun b1 Hj =>
            if b1 = true then tk σ3 Hj fun key Hk => tv σ3 Hk fun val Hl => ∃ kvs k, key = kV k ∧ Hl D = some (.dK kvs) ∧ kvs.length < sizeLine ∧ On1 (upd Hl D (.dK (putK kvs k val))) else On1 Hj)
        else On He) := by
  have e1 : Ext H1 (upd H1 D (.dK [])) := Ext.new hD
  let Pv : Nat → Hp → Prop := fun i H => ∃ kvs, Ext H1 H ∧ H D = some (.dK kvs) ∧ P i 0 kvs (del H D)
  refine ⟨fun i m H => m = n - i ∧ i ≤ n ∧ Pv i H, ⟨n, by simp, Nat.zero_le _, [], e1, upd_same, up 0 0 [] _ _ (ext_to e1 hD) h0⟩, ?_⟩
  rintro i m H ⟨rfl, hi, kvs, e, hx, hp⟩
  have q := hG H e
  by_cases hlt : i < n
  · refine .inr ⟨w.goes i H hlt q, Pv (i + 1), fun H' p' => ⟨n - (i + 1), by omega, rfl, hlt, p'⟩, fun x H' y => ?_⟩
    refine step i x H H' kvs hlt e hx (w.yields i H x H' hlt q y) hp (fun σ2 J1 Hf => ∃ V1 : Nat → Nat → Hp → Prop, (∃ k, V1 0 k Hf) ∧ ∀ j k Hg, V1 j k Hg →
          (J1.stop j Hg ∧ Pv (i + 1) Hg) ∨ (J1.go j Hg ∧ ∃ On1 : Hp → Prop, (∀ Hh, On1 Hh → ∃ k2, k2 < k ∧ V1 (j + 1) k2 Hh) ∧ ∀ y Hh, J1.yld j Hg y Hh → g1 y (wipe σ2 vs1) Hh fun σ3 Hi => wipe σ3 vs1 = wipe σ2 vs1 ∧ tt1 σ3 Hi fun b1 Hj =>
            if b1 = true then tk σ3 Hj fun key Hk => tv σ3 Hk fun val Hl => ∃ kvs k, key = kV k ∧ Hl D = some (.dK kvs) ∧ kvs.length < sizeLine ∧ On1 (upd Hl D (.dK (putK kvs k val))) else On1 Hj)) ?_
    rintro σ2 J1 H4 ⟨e4, n1, G1, Y1, w1, hG1, hend, hst⟩
    have e14 : Ext H1 (del H4 D) := ext_to (e.trans e4) hD
    let Pj : Nat → Hp → Prop := fun j Ha => ∃ ks, Ext (del H4 D) (del Ha D) ∧ Ha D = some (.dK ks) ∧ P i j ks (del Ha D)
    refine ⟨fun j k Ha => k = n1 - j ∧ j ≤ n1 ∧ Pj j Ha, ⟨n1, by simp, Nat.zero_le _, kvs, Ext.refl _, e4 _ _ hx, up _ _ _ _ _ (ext_del e4) hp⟩, ?_⟩
    rintro j k Ha ⟨rfl, hj, ks, ea, hy, hpj⟩
    have ea2 : Ext (del H4 D) Ha := ea.trans del_ext
    have q1 := hG1 Ha ea2
    by_cases hl1 : j < n1
    · refine .inr ⟨w1.goes j Ha hl1 q1, Pj (j + 1), fun H' p' => ⟨n1 - (j + 1), by omega, rfl, hl1, p'⟩, fun x1 Hb y1 => ?_⟩
      refine hst j x1 Ha Hb ks hl1 ea2 hy (w1.yields j Ha x1 Hb hl1 q1 y1) hpj (fun key val Hl => ∃ kvs k, key = kV k ∧ Hl D = some (.dK kvs) ∧ kvs.length < sizeLine ∧ Pj (j + 1) (upd Hl D (.dK (putK kvs k val)))) _ ?_ ?_
      · intro k v H5 e5 z
        exact ⟨ks, k, rfl, e5 _ _ hy, few _ _ _ _ hpj, putK ks k v, by rw [del_upd]; exact ea.trans (ext_del e5), upd_same, by rw [del_upd]; exact z⟩
      · intro H5 e5 z
        exact ⟨ks, ea.trans (ext_del e5), e5 _ _ hy, z⟩
    · have ej : j = n1 := by omega
      subst ej
      exact .inl ⟨w1.stops Ha q1, ks, e14.trans ea2, hy, hend _ _ hpj⟩
  · have ei : i = n := by omega
    subst ei
    exact .inl ⟨w.stops H q, last H kvs e hx (up _ _ _ _ _ del_ext hp)⟩
end Ol

set_option Elab.async false
set_option linter.all false
set_option maxRecDepth 100000
set_option maxHeartbeats 4000000
namespace K28
open PySem PySem.Spec PyProof.Rows L2 Ol RZ
open TL (tl)
theorem arm_inv {H : Hp} {v : V} {a : Arm} (h : Dq H v (armD a)) : ∃ t xs, v = .ref t ∧ H t = some (.tup xs) ∧ atI xs (-1) = some (.int (a.2 : Int)) ∧ atI xs 0 = some (.str (match a.1 with | some p => p.1 | none => "else")) ∧ (∀ p, a.1 = some p → atI xs 1 = some (.str p.2)) := by
  obtain ⟨o, g⟩ := a
  cases o with
  | none =>
    obtain ⟨t, xs, ds, rfl, e, h1, h2⟩ := dq_tup (d := .tuple [.str "else", .int (g : Int)]) h rfl
    cases e
    cases h2 with
    | cons a1 t1 => cases t1 with
      | cons a2 t2 =>
        cases t2
        cases a1
        cases a2
        exact ⟨t, _, rfl, h1, rfl, rfl, fun p z => nomatch z⟩
  | some p =>
    obtain ⟨t, xs, ds, rfl, e, h1, h2⟩ := dq_tup (d := .tuple [.str p.1, .str p.2, .int (g : Int)]) h rfl
    cases e
    cases h2 with
    | cons a1 t1 => cases t1 with
      | cons a2 t2 => cases t2 with
        | cons a3 t3 =>
          cases t3
          cases a1
          cases a2
          cases a3
          exact ⟨t, _, rfl, h1, rfl, rfl, fun q z => by cases z; rfl⟩
section
variable {P : Program} {w : World} {K : PySem.W.Frag} {mg : Str → Option Value} {base : Heap} {C : Addr}
/-- what the text says of the class Program -/
structure PT (K : PySem.W.Frag) (mg : Str → Option Value) (C : Addr) : Prop where
  cl : Cls K C
  nP : NoAttr K C "_places"
  nU : NoAttr K C "_used"
  gC : mg "Program" = some (.ref C)
  n_enum : mg "enumerate" = none
abbrev cP (i : Nat) : Stmt := inClass (topS 30) i
/-- the places of a program -/
structure Pls (ps : List Place) : Prop where
  ne : ps ≠ []
  few : ps.length ≤ 6
  ok : ∀ p ∈ ps, GPlace ps.length p
def spCheck (C : Addr) : Sp := fun vs H Q _ => ∃ (p dx t : Addr) (fs : List (Str × V)) (xs : List V) (ps : List Place), vs = [.ref p] ∧ H p = some (.ins C dx fs) ∧ fs.lookup ("_places" : Str) = some (.ref t) ∧ fs.lookup ("_check" : Str) = none ∧ H t = some (.tup xs) ∧ DqAll H xs (ps.map placeD) ∧ Pls ps ∧ ∀ H', Ext H H' → Q .non H'
abbrev nChk : List Str := ["self", "_", "arms", "arm", "place"]
theorem sc_check : FnScope nChk ["self"] (defScope (cP 1)) := ⟨rfl, rfl, rfl, by decide +kernel, rfl, by decide +kernel, by decide +kernel⟩
theorem ok_check {f : Addr} {fd : FuncData} (F : Fun K "_check" "Program._check" (cP 1) f fd) (T : BT mg) (L : PT K mg C) (CE : Ca P w K mg base 1 "is_else" ["arm"] spElse) :
    FnOk P w K mg base CX0 2 f fd ["self"] (spCheck C) := by
  refine F.ok sc_check (fun vs H Q E h => ?_) (fun cdv A outer s H vs Q E hr h => ?_)
  · obtain ⟨p, dx, t, fs, xs, ps, rfl, _⟩ := h
    rfl
  · obtain ⟨p, dx, t, fs, xs, ps, rfl, hp, hl, _, ht, hx, ok, q⟩ := h
    refine ⟨_, (pss_cons (ps_for PassesOwn.never rfl (pi_tup (pe_fld (pv 0) rfl)) (pg_tup (by rfl) (pgs_cons (pg_name (i := 1) sc_check.nd rfl (.inl rfl)) (pgs_cons (pg_name (i := 2) sc_check.nd rfl (.inl rfl)) pgs_nil)))
        (pss_one (ps_for PassesOwn.never rfl (pi_tup (pv 2)) (pg_name (i := 3) sc_check.nd rfl (.inl rfl))
          (pss_one (ps_if (pt_cmpR op_ge (pe_ix ix_tup (pv 3) (pe_un un_neg pe_int) (fun _ _ => rfl)) (pe_callB call_len_seq (by rfl) T.n_len (by decide +kernel) (pa_cons (pe_fld (pv 0) rfl) pa_nil)) (nomark _)) (pss_one ps_never) pss_nil)))))
      (pss_one (ps_for PassesOwn.never rfl (pi_enumT (by rfl) L.n_enum (pa_cons (pe_fld (pv 0) rfl) pa_nil)) (pg_tup (by rfl) (pgs_cons (pg_name (i := 4) sc_check.nd rfl (.inl rfl)) (pgs_cons (pg_tup (by rfl) (pgs_cons (pg_name (i := 1) sc_check.nd rfl (.inl rfl)) (pgs_cons (pg_name (i := 2) sc_check.nd rfl (.inl rfl)) pgs_nil))) pgs_nil)))
        (pss_one (ps_if (pt_cmpR op_gt (pe_callB call_len_seq (by rfl) T.n_len (by decide +kernel) (pa_cons (pe_lc (own := [("arm", 3)]) (g := gName 3) rfl sc_check.nd (pi_tup (pv 2)) (blkOk_by (N := nChk) (sc := defScope (cP 1)) (by decide +kernel)) (fun _ _ _ _ _ => pg_name (i := 3) sc_check.nd rfl (.inl rfl)) (fun _ _ _ _ _ => pts_one (pt_val (pe_ca CE (hr.mono (by decide)) (by rfl) (pa_cons (pv 3) pa_nil)))) (fun _ _ _ _ _ => pv 3)) pa_nil)) pe_int (nomark _)) (pss_one ps_never) pss_nil))))), ?_⟩
    have lx : xs.length = ps.length := by rw [hx.len, List.length_map]
    refine ⟨_, rfl, p, C, dx, _, _, rfl, hp, L.cl, L.nP, hl, t, rfl, ⟨_, SqT.of ht⟩, ?_⟩
    refine for_tup (xs := xs) (fun i σ H' => ∃ s1 s2 s3, σ = [some (.ref p), s1, s2, s3, none] ∧ H' = H)
      ⟨none, none, none, rfl, rfl⟩ (fun i σ H' _ ⟨_, _, _, _, e⟩ => by rw [e]; exact SqT.of ht) ?_ ?_
    · rintro i x σ H1 hxi ⟨s1, s2, s3, rfl, rfl⟩
      have hi : i < ps.length := by have := (List.getElem?_eq_some_iff.mp hxi).1; omega
      obtain ⟨x', hx', dx'⟩ := DqAll_get hx i (placeD ps[i]) (by rw [List.getElem?_map, List.getElem?_eq_getElem hi]; rfl)
      rw [hxi] at hx'
      cases hx'
      obtain ⟨a, t2, ys, rfl, ha, ht2, hys⟩ := place_inv dx'
      have gp := ok.ok _ (List.getElem_mem hi)
      have ly : ys.length = ps[i].2.length := by rw [hys.len, List.length_map]
      refine ⟨a, _, rfl, SqT.of ha, rfl, _, _, rfl, _, _, rfl, rfl, ?_⟩
      refine ⟨_, rfl, t2, rfl, ⟨_, SqT.of ht2⟩, ?_⟩
      refine for_tup (xs := ys) (fun j σ H' => ∃ s3, σ = [some (.ref p), some (.str ps[i].1), some (.ref t2), s3, none] ∧ H' = H1)
        ⟨_, rfl, rfl⟩ (fun j σ H' _ ⟨_, _, e⟩ => by rw [e]; exact SqT.of ht2) ?_ ?_
      · rintro j y σ H2 hyj ⟨s3, rfl, rfl⟩
        have hj : j < ps[i].2.length := by have := (List.getElem?_eq_some_iff.mp hyj).1; omega
        obtain ⟨y', hy', dy'⟩ := DqAll_get hys j (armD ps[i].2[j]) (by rw [List.getElem?_map, List.getElem?_eq_getElem hj]; rfl)
        rw [hyj] at hy'
        cases hy'
        obtain ⟨t3, zs, rfl, h3, l3, _⟩ := arm_inv dy'
        have lt := (gp.arms _ (List.getElem_mem hj)).2
        refine ⟨_, rfl, _, rfl, t3, _, _, _, rfl, rfl, SqT.of h3, l3, _, rfl, p, C, dx, _, _, rfl, hp, L.cl, L.nP, hl, t, _, rfl, .inr (SqT.of ht), _, _, rfl, rfl, _, rfl, ?_⟩
        refine ite2 (fun g => ?_) (fun _ => ?_)
        · have := of_decide_eq_true g
          omega
        · exact ⟨_, rfl, rfl⟩
      · rintro σ H2 ⟨s3, rfl, rfl⟩
        exact ⟨_, _, _, rfl, rfl⟩
    · rintro σ H1 ⟨s1, s2, s3, rfl, rfl⟩
      refine ⟨_, rfl, p, C, dx, _, _, rfl, hp, L.cl, L.nP, hl, t, _, rfl, SqT.of ht, ?_⟩
      refine for_it (walk_enumT (xs := xs)) (fun i σ H' => ∃ s1 s2 s3 s4, σ = [some (.ref p), s1, s2, s3, s4] ∧ Ext H1 H')
        ⟨_, _, _, _, rfl, Ext.refl _⟩ (fun i σ H' _ ⟨_, _, _, _, _, e⟩ => SqT.of (e _ _ ht)) ?_ ?_
      · rintro i v σ H2 H3 hi ⟨s1, s2, s3, s4, rfl, e⟩ ⟨T', y1, y2, rfl, hT, rfl, g1, g2⟩
        have hi2 : i < ps.length := by omega
        obtain ⟨x', hx', dx'⟩ := DqAll_get hx i (placeD ps[i]) (by rw [List.getElem?_map, List.getElem?_eq_getElem hi2]; rfl)
        cases g1
        dsimp only at g2
        rw [hx'] at g2
        cases g2
        obtain ⟨a, t2, ys, rfl, ha, ht2, hys⟩ := place_inv dx'
        have gp := ok.ok _ (List.getElem_mem hi2)
        have ly : ys.length = ps[i].2.length := by rw [hys.len, List.length_map]
        have eT := Ext.new (o := .tup [.int (i : Int), .ref a]) hT
        have e2 := e.trans eT
        refine ⟨T', _, rfl, SqT.of upd_same, rfl, _, _, rfl, _, _, rfl, a, _, rfl, SqT.of (e2 _ _ ha), rfl, _, _, rfl, _, _, rfl, rfl, rfl, ?_⟩
        refine ⟨_, rfl, t2, rfl, ⟨_, SqT.of (e2 _ _ ht2)⟩, fun D hD => ?_⟩
        refine lc1_acc (walk_tup (xs := ys)) (fun k zs _ => zs.length = ((ps[i].2.take k).filter fun a => a.1.isNone).length) (fun _ _ _ _ _ h => h) rfl hD
          (fun k zs _ h => by rw [h]; exact Nat.lt_of_le_of_lt (Nat.le_trans (List.length_filter_le ..) (by rw [List.length_take]; have := gp.few; omega : _ ≤ 10)) (by decide)) (fun H' e' => SqT.of ((e2.trans e') _ _ ht2)) ?_ ?_
        · rintro k y Hi H' zs hk e' hy ⟨rfl, hyk⟩ hz QY QN kY kN
          have hk2 : k < ps[i].2.length := by omega
          obtain ⟨y', hy', dy'⟩ := DqAll_get hys k (armD ps[i].2[k]) (by rw [List.getElem?_map, List.getElem?_eq_getElem hk2]; rfl)
          rw [hyk] at hy'
          cases hy'
          refine ⟨rfl, _, rfl, y, ps[i].2[k], rfl, dy'.up (e2.trans e'), _, rfl, ?_⟩
          refine ite2 (fun g => ?_) (fun g => ?_)
          · refine ⟨_, rfl, kY _ _ (Ext.refl _) ?_⟩
            rw [List.take_add_one, List.getElem?_eq_getElem hk2, Option.toList_some, List.filter_append, List.length_append, List.length_append, hz, List.filter_cons_of_pos (p := fun a : Arm => a.1.isNone) (a := ps[i].2[k]) g]
            rfl
          · refine kN _ (Ext.refl _) ?_
            rw [List.take_add_one, List.getElem?_eq_getElem hk2, Option.toList_some, List.filter_append, List.length_append, hz, List.filter_cons_of_neg (p := fun a : Arm => a.1.isNone) (a := ps[i].2[k]) g]
            rfl
        · rintro H4 zs e4 h4 hz
          rw [ly, List.take_length] at hz
          refine ⟨D, _, rfl, .inl (SqL.of h4), _, _, rfl, rfl, _, rfl, ?_⟩
          refine ite2 (fun g => ?_) (fun _ => ?_)
          · have := of_decide_eq_true g
            have := gp.els
            omega
          · exact ⟨_, _, _, _, rfl, e2.trans e4⟩
      · rintro σ H2 ⟨s1, s2, s3, s4, rfl, e⟩
        exact q _ e
end
end K28

set_option Elab.async false
set_option linter.all false
set_option maxRecDepth 100000
set_option maxHeartbeats 4000000
namespace K28
open PySem PySem.Spec PyProof.Rows L2 Ol RZ
open TL (tl)
/-- the fields -/
def pf (t u : Addr) : List (Str × V) := [("_places", .ref t), ("_used", .ref u)]
theorem p_u : ¬ (("_places" : Str) = "_used") := by decide +kernel
theorem u_p : ¬ (("_used" : Str) = "_places") := by decide +kernel
theorem pf_p (t u : Addr) : (pf t u).lookup ("_places" : Str) = some (.ref t) := by
  unfold pf
  rw [List.lookup_cons_self]
theorem pf_u (t u : Addr) : (pf t u).lookup ("_used" : Str) = some (.ref u) := by
  unfold pf
  rw [List.lookup_cons, beq_eq_false_iff_ne.mpr u_p]
  dsimp only
  rw [List.lookup_cons_self]
theorem pf_no (t u : Addr) {m : Str} (h1 : ¬ m = "_places") (h2 : ¬ m = "_used") : (pf t u).lookup m = none := by
  unfold pf
  rw [List.lookup_cons, beq_eq_false_iff_ne.mpr h1]
  dsimp only
  rw [List.lookup_cons, beq_eq_false_iff_ne.mpr h2]
  rfl
theorem putp1 (t : Addr) : putF "_places" (.ref t) [] = ([("_places", V.ref t)] : List (Str × V)) := rfl
theorem putp2 (t u : Addr) : putF "_used" (.ref u) [("_places", V.ref t)] = pf t u := by
  show (if ("_places" : Str) = "_used" then _ else (("_places" : Str), V.ref t) :: putF "_used" (V.ref u) []) = _
  rw [if_neg p_u]
  rfl
/-- the lanes that stand in arms -/
def lanesA (as : List Arm) : List Str := as.filterMap fun a => a.1.map (·.2)
def lanesP (ps : List Place) : List Str := ps.flatMap fun p => lanesA p.2
theorem lanesA_snoc (as : List Arm) (a : Arm) : lanesA (as ++ [a]) = lanesA as ++ lanesA [a] := List.filterMap_append ..
theorem lanesP_snoc (ps : List Place) (p : Place) : lanesP (ps ++ [p]) = lanesP ps ++ lanesA p.2 := by
  unfold lanesP
  rw [List.flatMap_append]
  simp
/-- a Program of these places stands at p -/
def ProgAt (C : Addr) (H : Hp) (p : Addr) (ps : List Place) : Prop :=
  ∃ dx t u xs us, H p = some (.ins C dx (pf t u)) ∧ H t = some (.tup xs) ∧ DqAll H xs (ps.map placeD) ∧ H u = some (.tup (us.map V.str)) ∧ sortedS us = true ∧ us.Nodup ∧ us.length ≤ 40 ∧ (∀ x, x ∈ us ↔ x ∈ lanesP ps) ∧ Pls ps
theorem ProgAt.up {C : Addr} {H H' : Hp} {p : Addr} {ps : List Place} (e : Ext H H') : ProgAt C H p ps → ProgAt C H' p ps
  | ⟨dx, t, u, xs, us, h1, h2, h3, h4, r⟩ => ⟨dx, t, u, xs, us, e _ _ h1, e _ _ h2, DqAll.up e h3, e _ _ h4, r⟩
def kvT (ns : List Str) : List (Key × V) := ns.map fun x => (.inr x, .bl true)
theorem kvT_val {ns : List Str} {x : Str} : valV (kvT ns) (.inr x) = if x ∈ ns then some (.bl true) else none := by
  induction ns with
  | nil => rfl
  | cons y ns ih =>
    unfold kvT
    rw [List.map_cons]
    by_cases c : y = x
    · rw [valV_pos (by rw [c]), if_pos (by rw [c]; exact List.mem_cons_self)]
    · rw [valV_neg (fun z => c (Sum.inr.inj z))]
      have ih' : valV (ns.map fun x => (Sum.inr x, V.bl true)) (.inr x) = if x ∈ ns then some (.bl true) else none := ih
      rw [ih']
      by_cases m : x ∈ ns
      · rw [if_pos m, if_pos (List.mem_cons_of_mem _ m)]
      · rw [if_neg m, if_neg]
        intro z
        rcases List.mem_cons.mp z with z | z
        · exact c z.symm
        · exact m z
section
variable {P : Program} {w : World} {K : PySem.W.Frag} {mg : Str → Option Value} {base : Heap} {C : Addr}
abbrev rTupOf (K : PySem.W.Frag) : List V → Hp → VK → Prop := fun xs H Q => ∃ p ys, xs = [.ref p] ∧ ((SqL K H p ys ∧ ∀ l, H l = none → Q (.ref l) (upd H l (.tup ys))) ∨ (SqT K H p ys ∧ Q (.ref p) H))
theorem kvT_put {ns : List Str} {x : Str} (h : x ∈ ns) : putK (kvT ns) (.inr x) (.bl true) = kvT ns := by
  have some_ : (valV (kvT ns) (.inr x)).isSome = true := by rw [kvT_val, if_pos h]; rfl
  unfold putK
  rw [valV_any, some_, if_pos rfl]
  unfold kvT
  rw [List.map_map]
  refine List.map_congr_left fun y _ => ?_
  show (if Sum.inr y = (Sum.inr x : Key) then (Sum.inr y, V.bl true) else (Sum.inr y, V.bl true)) = _
  split <;> rfl
theorem kvT_new {ns : List Str} {x : Str} (h : x ∉ ns) : putK (kvT ns) (.inr x) (.bl true) = kvT (ns ++ [x]) := by
  rw [putK_new (by rw [kvT_val, if_neg h])]
  unfold kvT
  rw [List.map_append]
  rfl
def armsAt (ps : List Place) (i : Nat) : List Arm := (ps[i]?.map (·.2)).getD []
theorem one_field (t : Addr) {m : Str} (h : ¬ m = "_places") : ([("_places", V.ref t)] : List (Str × V)).lookup m = none := by
  rw [List.lookup_cons, beq_eq_false_iff_ne.mpr h]
  rfl
theorem dq_app {H : Hp} : ∀ {a b : List V} {da db : List PyData}, DqAll H a da → DqAll H b db → DqAll H (a ++ b) (da ++ db)
  | _, _, _, _, .nil, h => h
  | _, _, _, _, .cons x t, h => .cons x (dq_app t h)
structure ChM (P : Program) (w : World) (K : PySem.W.Frag) (mg : Str → Option Value) (base : Heap) (C : Addr) : Prop where
  has : ∃ (f : Addr) (fd : FuncData), FnOk P w K mg base CX0 2 f fd ["self"] (spCheck C) ∧ Meth K C "_check" f ∧ Binds K fd ["self"] []
def spProg (C : Addr) : Sp := fun vs H Q _ => ∃ (H0 : Hp) (p dx a : Addr) (xs : List V) (ps : List Place), vs = [.ref p, .ref a] ∧ H0 p = none ∧ Ext H0 H ∧ H p = some (.ins C dx []) ∧ H0 a = some (.lst xs) ∧ DqAll H0 xs (ps.map placeD) ∧ Pls ps ∧
  ∀ H', Ext H0 H' → ProgAt C H' p ps → Q .non H'
abbrev nInit : List Str := ["self", "places", "names", "_", "arms", "arm", "mode"]
theorem sc_prog : FnScope nInit ["self", "places"] (defScope (cP 0)) := ⟨rfl, rfl, rfl, by decide +kernel, rfl, by decide +kernel, by decide +kernel⟩
theorem ok_prog {f fP : Addr} {fd : FuncData} (F : Fun K "__init__" "Program.__init__" (cP 0) f fd) (T : BT mg) (L : PT K mg C) (gP : mg "is_place" = some (.ref fP))
    (CR : Ca P w K mg base 6 "is_row_of" ["thing", "is_part"] (spRow GP fP)) (CE : Ca P w K mg base 1 "is_else" ["arm"] spElse) (MC : ChM P w K mg base C) :
    FnOk P w K mg base CX0 7 f fd ["self", "places"] (spProg C) := by
  obtain ⟨fC, fdC, FC, mc, bC⟩ := MC.has
  refine F.ok sc_prog (fun vs H Q E h => ?_) (fun cdv A outer s H vs Q E hr h => ?_)
  · obtain ⟨H0, p, dx, a, xs, ps, rfl, _⟩ := h
    rfl
  · obtain ⟨H0, p, dx, a, xs, ps, rfl, hp0, e0, hp, ha, hx, ok, q⟩ := h
    refine ⟨_, (pss_cons (ps_if (PW.pt (pw_or (pt_not (pt_val (pe_ca CR (hr.mono (by decide)) (by rfl) (pa_cons (pv 1) (pa_cons (pe_glob (v := .ref fP) rfl gP rfl) pa_nil))))) (pw_or1 (pt_cmpR op_eq (pe_callB call_len_seq (by rfl) T.n_len (by decide +kernel) (pa_cons (pv 1) pa_nil)) pe_int (nomark _))))) (pss_one ps_never) pss_nil)
      (pss_cons (ps_fld (pv 0) (pe_callTy call_tuple_of (by rfl) T.n_tuple (by decide +kernel) (pa_cons (pe_lc (own := [("mode", 6), ("arms", 4)]) (g := gTup K 2 (gCons (gName 6) (gCons (gName 4) gNil))) (tt := tYes) rfl sc_prog.nd (pi_list (pv 1)) (blkOk_by (N := nInit) (sc := defScope (cP 0)) (by decide +kernel)) (fun _ _ _ _ _ => pg_tup (by rfl) (pgs_cons (pg_name (i := 6) sc_prog.nd rfl (.inl rfl)) (pgs_cons (pg_name (i := 4) sc_prog.nd rfl (.inl rfl)) pgs_nil))) (te := tTup (tCons (tVar 6) (tCons (tCB (rTupOf K) (tCons (tVar 4) tNil)) tNil))) (fun _ _ _ _ _ => pts_nil) (fun _ _ _ _ _ => pe_tup (pa_cons (pv 6) (pa_cons (pe_callTy (r := rTupOf K) (T := "tuple") call_tuple_of (by rfl) T.n_tuple (by decide +kernel) (pa_cons (pv 4) pa_nil)) pa_nil)))) pa_nil)) rfl)
      (pss_cons (ps_expr (pe_meth0 (pv 0) L.cl mc FC (hr.mono (by decide)) bC .nil pass0))
      (pss_cons (ps_setDc2 (i := 2) (own := [("_", 3), ("arms", 4), ("arm", 5)]) (vs1 := [5]) (g := gTup K 2 (gCons (gName 3) (gCons (gName 4) gNil))) (g1 := gName 5) (tt := tYes) (wi1 := iTup K (tVar 4)) rfl sc_prog.nd rfl rfl (sw_dict rfl rfl rfl (by decide +kernel)) (pi_tup (pe_fld (pv 0) rfl)) (blkOk_by (N := nInit) (sc := defScope (cP 0)) (by decide +kernel)) (by decide)
          (fun _ _ _ _ _ => pg_tup (by rfl) (pgs_cons (pg_name (i := 3) sc_prog.nd rfl (.inl rfl)) (pgs_cons (pg_name (i := 4) sc_prog.nd rfl (.inl rfl)) pgs_nil))) (fun _ _ _ _ _ => pts_nil) (fun _ _ _ _ _ => pi_tup (pv 4)) (fun _ _ _ _ _ => pg_name (i := 5) sc_prog.nd rfl (.inl rfl))
          (fun _ _ _ _ _ => pts_one (pt_not (pt_val (pe_ca CE (hr.mono (by decide)) (by rfl) (pa_cons (pv 5) pa_nil))))) (tk := tOp (rIxT K) (tVar 5) (tC (.int 1))) (fun _ _ _ _ _ => pe_ix ix_tup (pv 5) pe_int (fun _ _ => rfl)) (fun _ _ _ _ _ => pe_bl))
      (pss_one (ps_fld (pv 0) (pe_callTy call_tuple_of (by rfl) T.n_tuple (by decide +kernel) (pa_cons (pe_callB (call_sortedD rfl) (by rfl) T.n_sorted (by decide +kernel) (pa_cons (pv 2) pa_nil)) pa_nil)) rfl)))))), ?_⟩
    have lx : xs.length = ps.length := by rw [hx.len, List.length_map]
    have p0 : 0 < ps.length := List.length_pos_iff.mpr ok.ne
    have pf6 := ok.few
    refine ⟨_, rfl, a, xs, ps.map placeD, rfl, .inl (e0 _ _ ha), DqAll.up e0 hx, (fun d hd => by
      obtain ⟨b, hb, rfl⟩ := List.mem_map.mp hd
      exact ⟨_, b, ok.ok b hb, rfl⟩), by rw [List.length_map]; omega, fun H1 e1 => ⟨_, rfl, ?_⟩⟩
    refine iteF ?_
    have e01 := e0.trans e1
    have hp1 := e1 _ _ hp
    refine ⟨_, rfl, a, _, rfl, .inl (SqL.of (e01 _ _ ha)), rfl, _, rfl, ?_⟩
    refine ite2 (fun g => ?_) (fun _ => ?_)
    · have z := of_decide_eq_true g
      injection z with z
      omega
    -- the places
    refine ⟨_, rfl, a, rfl, ⟨_, SqL.of (e01 _ _ ha)⟩, fun D hD => ?_⟩
    refine lc1_acc (walk_list (xs := xs)) (fun i zs Hd => DqAll (del Hd p) zs ((ps.take i).map placeD)) (fun _ _ _ _ e h => DqAll.up (ext_del e) h) .nil hD
      (fun i zs _ h => by rw [h.len, List.length_map, List.length_take]; exact Nat.lt_of_le_of_lt (show _ ≤ 6 by omega) (by decide)) (fun H' e => SqL.of ((e01.trans e) _ _ ha)) ?_ ?_
    · rintro i x Hi H' zs hi e hy ⟨rfl, hxi⟩ hz QY QN kY kN
      have hi2 : i < ps.length := by omega
      obtain ⟨x', hx', dx'⟩ := DqAll_get hx i (placeD ps[i]) (by rw [List.getElem?_map, List.getElem?_eq_getElem hi2]; rfl)
      rw [hxi] at hx'
      cases hx'
      obtain ⟨b, t2, ys, rfl, hb, ht2, hys⟩ := place_inv dx'
      have e0i := e01.trans e
      refine ⟨b, _, rfl, SqT.of (e0i _ _ hb), rfl, _, _, rfl, _, _, rfl, rfl, rfl, ?_⟩
      refine tyes ?_
      refine ⟨_, rfl, _, rfl, t2, ys, rfl, .inr ⟨SqT.of (e0i _ _ ht2), by show 2 ≤ sizeLine; decide, fun t3 ht3 => ?_⟩⟩
      have e3 := Ext.new (o := .tup [.str ps[i].1, .ref t2]) ht3
      refine kY _ _ e3 ?_
      have n1 : t3 ≠ p := fun z => by rw [z, e _ _ hp1] at ht3; cases ht3
      have n2 : t3 ≠ D := fun z => by rw [z, hy] at ht3; cases ht3
      have hD0 : H0 D = none := e01.free hD
      have ex : Ext H0 (del (del (upd H' t3 (.tup [.str ps[i].1, .ref t2])) D) p) := ext_to (ext_to (e0i.trans e3) hD0) hp0
      rw [List.take_add_one, List.getElem?_eq_getElem hi2, Option.toList_some, List.map_append]
      have one : DqAll (del (del (upd H' t3 (.tup [.str ps[i].1, .ref t2])) D) p) [.ref t3] [placeD ps[i]] :=
        .cons (.tup (by rw [del_ne n1, del_ne n2]; exact upd_same) (.cons (.str _) (.cons (.tup (ex _ _ ht2) (DqAll.up ex hys)) .nil))) .nil
      exact dq_app (DqAll.up (ext_del (ext_del e3)) hz) one
    intro H2 zs e2 hD2 hz
    rw [lx, List.take_length] at hz
    have hp2 := e2 _ _ hp1
    refine ⟨D, _, rfl, .inl ⟨SqL.of hD2, fun t ht => ?_⟩⟩
    have et := Ext.new (o := .tup zs) ht
    have npt : p ≠ t := fun z => by rw [← z, hp2] at ht; cases ht
    refine ⟨_, rfl, p, C, dx, [], rfl, et _ _ hp2, L.cl, L.nP, (by show 0 < 1000; decide), ?_⟩
    rw [putp1]
    have e4 : Ext H0 (upd (upd H2 t (.tup zs)) p (.ins C dx [("_places", .ref t)])) := Ext.mut ((e01.trans e2).trans et) hp0
    have h4t : (upd (upd H2 t (.tup zs)) p (.ins C dx [("_places", .ref t)])) t = some (.tup zs) := by
      rw [upd_ne (Ne.symm npt)]
      exact upd_same
    have h4p : (upd (upd H2 t (.tup zs)) p (.ins C dx [("_places", .ref t)])) p = some (.ins C dx [("_places", .ref t)]) := upd_same
    have h4d : DqAll (del (upd (upd H2 t (.tup zs)) p (.ins C dx [("_places", .ref t)])) p) zs (ps.map placeD) := by
      rw [del_upd]
      exact DqAll.up (ext_del et) hz
    generalize upd (upd H2 t (.tup zs)) p (.ins C dx [("_places", .ref t)]) = H4 at *
    have h4z := DqAll.up del_ext h4d
    -- the check
    have lk : ([("_places", V.ref t)] : List (Str × V)).lookup ("_places" : Str) = some (.ref t) := List.lookup_cons_self
    have lc : ([("_places", V.ref t)] : List (Str × V)).lookup ("_check" : Str) = none := one_field t (by decide +kernel)
    refine ⟨_, rfl, p, dx, _, rfl, h4p, lc, p, dx, t, _, zs, ps, rfl, h4p, lk, lc, h4t, h4z, ok, fun H5 e5 => ?_⟩
    have h5p := e5 _ _ h4p
    have h5t := e5 _ _ h4t
    have h5z := DqAll.up e5 h4z
    have e05 := e4.trans e5
    have lz : zs.length = ps.length := by rw [h5z.len, List.length_map]
    -- the lanes in use
    refine ⟨_, rfl, p, C, dx, _, _, rfl, h5p, L.cl, L.nP, lk, t, rfl, ⟨_, SqT.of h5t⟩, fun D2 hD2 => ?_⟩
    refine dc2_acc (walk_tup (xs := zs)) (fun i j kvs _ => ∃ ns : List Str, kvs = kvT ns ∧ ns.Nodup ∧ (∀ x, x ∈ ns ↔ x ∈ lanesP (ps.take i) ++ lanesA ((armsAt ps i).take j)) ∧ ns.length ≤ 5 * i + j ∧ i ≤ 6 ∧ j ≤ 5) (fun _ _ _ _ _ _ h => h)
      ⟨[], rfl, List.nodup_nil, (fun x => by simp [lanesP, lanesA]), by decide, by decide, by decide⟩ hD2
      (fun i j kvs _ ⟨ns, e, _, _, h1, h2, h3⟩ => by rw [e]; unfold kvT; rw [List.length_map]; exact Nat.lt_of_le_of_lt (show _ ≤ 35 by omega) (by decide)) (fun H' e => SqT.of (e _ _ h5t)) ?_ ?_
    · rintro i x Hi H' kvs hi e hy ⟨rfl, hxi⟩ hP R hR
      have hi2 : i < ps.length := by omega
      obtain ⟨x', hx', dx'⟩ := DqAll_get h5z i (placeD ps[i]) (by rw [List.getElem?_map, List.getElem?_eq_getElem hi2]; rfl)
      rw [hxi] at hx'
      cases hx'
      obtain ⟨b, t2, ys, rfl, hb, ht2, hys⟩ := place_inv dx'
      have gp := ok.ok _ (List.getElem_mem hi2)
      have ly : ys.length = ps[i].2.length := by rw [hys.len, List.length_map]
      have ea : armsAt ps i = ps[i].2 := by
        unfold armsAt
        rw [List.getElem?_eq_getElem hi2]
        rfl
      refine ⟨b, _, rfl, SqT.of (e _ _ hb), rfl, _, _, rfl, _, _, rfl, rfl, rfl, ?_⟩
      refine ⟨_, rfl, t2, rfl, ⟨_, SqT.of (e _ _ ht2)⟩, hR _ _ _ ⟨Ext.refl _, ys.length, _, _, walk_tup (xs := ys), fun Hz ez => SqT.of (ez _ _ (ext_to e hD2 _ _ ht2)), ?_, ?_⟩⟩
      · rintro kvs Hz ⟨ns, h1, h2, h3, h4, h5, h6⟩
        refine ⟨ns, h1, h2, fun z => ?_, by omega, by omega, by omega⟩
        rw [h3 z, ea, ly, List.take_length, List.take_add_one, List.getElem?_eq_getElem hi2, Option.toList_some, lanesP_snoc, List.take_zero]
        simp [lanesA]
      · rintro j y Ha Hb kvs hj eH ha2 ⟨rfl, hyj⟩ ⟨ns, rfl, h2, h3, h4, h5, h6⟩ QY QN kY kN
        have hj2 : j < ps[i].2.length := by omega
        obtain ⟨y', hy', dy'⟩ := DqAll_get hys j (armD ps[i].2[j]) (by rw [List.getElem?_map, List.getElem?_eq_getElem hj2]; rfl)
        rw [hyj] at hy'
        cases hy'
        have dy := dy'.up ((ext_to e hD2).trans eH)
        obtain ⟨t4, ws, et4, h7, _, _, h8⟩ := arm_inv dy
        have few := gp.few
        have tk : (armsAt ps i).take (j + 1) = (armsAt ps i).take j ++ [ps[i].2[j]] := by
          rw [ea, List.take_add_one, List.getElem?_eq_getElem hj2]
          rfl
        refine ⟨rfl, _, rfl, y, ps[i].2[j], rfl, dy, _, rfl, ?_⟩
        cases ho : ps[i].2[j].1 with
        | none =>
          refine iteF ?_
          refine kN _ (Ext.refl _) ⟨ns, rfl, h2, fun z => ?_, by omega, h5, by omega⟩
          have l0 : lanesA [ps[i].2[j]] = [] := by simp [lanesA, ho]
          rw [h3 z, tk, lanesA_snoc, l0, List.append_nil]
        | some pr =>
          refine iteT ?_
          refine ⟨_, rfl, t4, ws, 1, .str pr.2, et4, rfl, SqT.of h7, h8 pr ho, ?_⟩
          have l1 : lanesA [ps[i].2[j]] = [pr.2] := by simp [lanesA, ho]
          by_cases m : pr.2 ∈ ns
          · refine kY (.inr pr.2) (.bl true) _ (Ext.refl _) ⟨ns, kvT_put m, h2, fun z => ?_, by omega, h5, by omega⟩
            rw [tk, lanesA_snoc, l1]
            constructor
            · intro hz
              have := (h3 z).mp hz
              simp only [List.mem_append] at this ⊢
              rcases this with h | h
              · exact .inl h
              · exact .inr (.inl h)
            · intro hz
              simp only [List.mem_append, List.mem_singleton] at hz
              rcases hz with h | h | h
              · exact (h3 z).mpr (List.mem_append_left _ h)
              · exact (h3 z).mpr (List.mem_append_right _ h)
              · rw [h]; exact m
          · refine kY (.inr pr.2) (.bl true) _ (Ext.refl _) ⟨ns ++ [pr.2], kvT_new m, ?_, fun z => ?_, by rw [List.length_append, List.length_singleton]; omega, h5, by omega⟩
            · refine List.nodup_append.mpr ⟨h2, by simp, fun c hc d hd e => ?_⟩
              rw [List.mem_singleton.mp hd] at e
              exact m (e ▸ hc)
            · rw [tk, lanesA_snoc, l1]
              simp only [List.mem_append, List.mem_singleton]
              rw [h3 z]
              simp only [List.mem_append]
              constructor
              · rintro ((h | h) | h)
                · exact .inl h
                · exact .inr (.inl h)
                · exact .inr (.inr h)
              · rintro (h | h | h)
                · exact .inl (.inl h)
                · exact .inl (.inr h)
                · exact .inr h
    rintro H6 kvs e6 hD6 ⟨ns, rfl, h2, h3, h4, _, _⟩
    rw [lz, List.take_length] at h3
    have h3' : ∀ x, x ∈ ns ↔ x ∈ lanesP ps := fun x => by rw [h3 x]; simp [lanesA]
    rw [lz] at h4
    have kk : (kvT ns).map (·.1) = ns.map Sum.inr := by
      unfold kvT
      rw [List.map_map]
      rfl
    refine ⟨_, rfl, D2, _, ns, rfl, Rd.of hD6, kk, by omega, fun us l hperm hso hl => ?_⟩
    have e7 := Ext.new (o := .lst (us.map V.str)) hl
    refine ⟨l, _, rfl, .inl ⟨SqL.of upd_same, fun u hu => ?_⟩⟩
    have e8 := Ext.new (o := .tup (us.map V.str)) hu
    have k8 := upd_same (H := upd H6 l (.lst (us.map V.str))) (a := u) (o := HO.tup (us.map V.str))
    have e58 := (e6.trans e7).trans e8
    generalize upd (upd H6 l (.lst (us.map V.str))) u (.tup (us.map V.str)) = H8 at *
    refine ⟨_, rfl, p, C, dx, _, rfl, e58 _ _ h5p, L.cl, L.nU, (by show 1 < 1000; decide), ?_⟩
    rw [putp2]
    have npu : p ≠ u := fun z => by
      have := e58 _ _ h5p
      rw [z, k8] at this
      cases this
    refine q _ (Ext.mut (e05.trans e58) hp0) ⟨dx, t, u, zs, us, upd_same, ?_, ?_, ?_, hso, hperm.nodup_iff.mpr h2, by rw [hperm.length_eq]; omega, fun x => by rw [hperm.mem_iff, h3' x], ok⟩
    · rw [upd_ne (Ne.symm npt)]
      exact e58 _ _ h5t
    · have z1 := DqAll.up (ext_del (D := p) (e5.trans e58)) h4d
      rw [← del_upd (o := .ins C dx (pf t u))] at z1
      exact DqAll.up del_ext z1
    · rw [upd_ne (Ne.symm npu)]
      exact k8
end
end K28

set_option Elab.async false
set_option linter.all false
set_option maxRecDepth 100000
set_option maxHeartbeats 4000000
namespace K28
open PySem PySem.Spec PyProof.Rows L2 Ol RZ
open TL (tl)
section
variable {P : Program} {w : World} {K : PySem.W.Frag} {mg : Str → Option Value} {base : Heap} {C : Addr}
/-! ### what a Program tells -/
def spPl (C : Addr) : Sp := fun vs H Q _ => ∃ (p : Addr) (ps : List Place) (i : Nat) (hi : i < ps.length), vs = [.ref p, .int (i : Int)] ∧ ProgAt C H p ps ∧ ∀ (r : V) (H' : Hp), Ext H H' → Dq H' r (placeD ps[i]) → Q r H'
theorem sc_pl : FnScope ["self", "place"] ["self", "place"] (defScope (cP 4)) := ⟨rfl, rfl, rfl, by decide +kernel, rfl, by decide +kernel, by decide +kernel⟩
theorem ok_pl {f : Addr} {fd : FuncData} (F : Fun K "_place" "Program._place" (cP 4) f fd) (T : BT mg) (L : PT K mg C) (C2 : Ca P w K mg base 2 "is_number" ["thing"] (spPred Any isNumD)) :
    FnOk P w K mg base CX0 3 f fd ["self", "place"] (spPl C) := by
  refine F.ok sc_pl (fun vs H Q E h => ?_) (fun cdv A outer s H vs Q E hr h => ?_)
  · obtain ⟨p, ps, i, hi, rfl, _⟩ := h
    rfl
  · obtain ⟨p, ps, i, hi, rfl, hP, q⟩ := h
    refine ⟨_, (pss_cons (ps_if (PW.pt (pw_or (pt_not (pt_val (pe_ca C2 (hr.mono (by decide)) (by rfl) (pa_cons (pv 1) pa_nil)))) (pw_or1 (pt_cmpR op_ge (pv 1) (pe_callB call_len_seq (by rfl) T.n_len (by decide +kernel) (pa_cons (pe_fld (pv 0) rfl) pa_nil)) (nomark _))))) (pss_one ps_never) pss_nil)
      (pss_one (ps_ret (pe_ix ix_tup (pe_fld (pv 0) rfl) (pv 1) (fun _ _ => rfl))))), ?_⟩
    have nn : isNumD (.int (i : Int)) = true := by
      have : (0 : Int) ≤ (i : Int) := by omega
      simp [isNumD, this]
    refine ⟨_, rfl, _, _, rfl, .int _, trivial, fun H1 e1 => ⟨_, rfl, ?_⟩⟩
    rw [nn]
    refine iteF ?_
    obtain ⟨dx, t, u, xs, us, h1, h2, h3, _⟩ := hP.up e1
    have lx : xs.length = ps.length := by rw [h3.len, List.length_map]
    obtain ⟨v, hv, dv⟩ := DqAll_get h3 i (placeD ps[i]) (by rw [List.getElem?_map, List.getElem?_eq_getElem hi]; rfl)
    refine ⟨_, rfl, _, rfl, p, C, dx, _, _, rfl, h1, L.cl, L.nP, pf_p _ _, t, _, rfl, .inr (SqT.of h2), _, _, rfl, rfl, _, rfl, ?_⟩
    refine ite2 (fun g => ?_) (fun _ => ?_)
    · have := of_decide_eq_true g
      omega
    · exact ⟨_, rfl, p, C, dx, _, _, rfl, h1, L.cl, L.nP, pf_p _ _, _, rfl, t, _, _, _, rfl, rfl, SqT.of h2, atI_nat hv, q _ _ e1 dv⟩
def spMode (C : Addr) : Sp := fun vs H Q _ => ∃ (p : Addr) (ps : List Place) (i : Nat) (hi : i < ps.length), vs = [.ref p, .int (i : Int)] ∧ ProgAt C H p ps ∧ ∀ (H' : Hp), Ext H H' → Q (.str ps[i].1) H'
theorem sc_md : FnScope ["self", "place"] ["self", "place"] (defScope (cP 8)) := ⟨rfl, rfl, rfl, by decide +kernel, rfl, by decide +kernel, by decide +kernel⟩
theorem ok_md {f : Addr} {fd : FuncData} (F : Fun K "mode" "Program.mode" (cP 8) f fd) (L : PT K mg C) (MP : Cm P w K mg base C 3 "_place" ["self", "place"] (spPl C)) :
    FnOk P w K mg base CX0 4 f fd ["self", "place"] (spMode C) := by
  refine F.ok sc_md (fun vs H Q E h => ?_) (fun cdv A outer s H vs Q E hr h => ?_)
  · obtain ⟨p, ps, i, hi, rfl, _⟩ := h
    rfl
  · obtain ⟨p, ps, i, hi, rfl, hP, q⟩ := h
    refine ⟨_, (pss_one (ps_ret (pe_ix ix_tup (pe_cm MP L.cl (hr.mono (by decide)) (pv 0) (pa_cons (pv 1) pa_nil)) pe_int (fun _ _ => rfl)))), ?_⟩
    obtain ⟨dx, t, u, xs, us, h1, _⟩ := id hP
    refine ⟨_, rfl, p, dx, _, rfl, h1, pf_no _ _ (by decide +kernel) (by decide +kernel), _, rfl, p, ps, i, hi, rfl, hP, fun r H1 e1 hr1 => ?_⟩
    obtain ⟨a, t2, ys, rfl, ha, _⟩ := place_inv hr1
    exact ⟨a, _, _, _, rfl, rfl, SqT.of ha, rfl, q _ e1⟩
def spArms (C : Addr) : Sp := fun vs H Q _ => ∃ (p : Addr) (ps : List Place) (i : Nat) (hi : i < ps.length), vs = [.ref p, .int (i : Int)] ∧ ProgAt C H p ps ∧
  ∀ (l : Addr) (ys : List V) (H' : Hp), H l = none → Ext H H' → H' l = some (.lst ys) → DqAll H' ys (ps[i].2.map armD) → Q (.ref l) H'
theorem sc_as : FnScope ["self", "place"] ["self", "place"] (defScope (cP 9)) := ⟨rfl, rfl, rfl, by decide +kernel, rfl, by decide +kernel, by decide +kernel⟩
theorem ok_as {f : Addr} {fd : FuncData} (F : Fun K "arms" "Program.arms" (cP 9) f fd) (T : BT mg) (L : PT K mg C) (MP : Cm P w K mg base C 3 "_place" ["self", "place"] (spPl C)) :
    FnOk P w K mg base CX0 4 f fd ["self", "place"] (spArms C) := by
  refine F.ok sc_as (fun vs H Q E h => ?_) (fun cdv A outer s H vs Q E hr h => ?_)
  · obtain ⟨p, ps, i, hi, rfl, _⟩ := h
    rfl
  · obtain ⟨p, ps, i, hi, rfl, hP, q⟩ := h
    refine ⟨_, (pss_one (ps_ret (pe_callTy call_list_of (by rfl) T.n_list (by decide +kernel) (pa_cons (pe_ix ix_tup (pe_cm MP L.cl (hr.mono (by decide)) (pv 0) (pa_cons (pv 1) pa_nil)) pe_int (fun _ _ => rfl)) pa_nil)))), ?_⟩
    obtain ⟨dx, t, u, xs, us, h1, _⟩ := id hP
    refine ⟨_, rfl, p, dx, _, rfl, h1, pf_no _ _ (by decide +kernel) (by decide +kernel), _, rfl, p, ps, i, hi, rfl, hP, fun r H1 e1 hr1 => ?_⟩
    obtain ⟨a, t2, ys, rfl, ha, ht2, hys⟩ := place_inv hr1
    refine ⟨a, _, _, _, rfl, rfl, SqT.of ha, rfl, t2, ys, rfl, .inr (SqT.of ht2), fun l hl => ?_⟩
    have e2 := Ext.new (o := .lst ys) hl
    exact q l ys _ (e1.free hl) (e1.trans e2) upd_same (DqAll.up e2 hys)
/-- the arm of this index -/
def spArmAt (C : Addr) : Sp := fun vs H Q _ => ∃ (p : Addr) (ps : List Place) (i : Nat) (hi : i < ps.length) (j : Nat) (hj : j < ps[i].2.length), vs = [.ref p, .int (i : Int), .int (j : Int)] ∧ ProgAt C H p ps ∧
  ∀ (r : V) (H' : Hp), Ext H H' → Dq H' r (armD ps[i].2[j]) → Q r H'
def spPlArm (C : Addr) : Sp := fun vs H Q _ => ∃ (p : Addr) (ps : List Place) (i : Nat) (hi : i < ps.length) (j : Nat) (hj : j < ps[i].2.length), vs = [.ref p, .int (i : Int), .int (j : Int)] ∧ ProgAt C H p ps ∧
  ∀ (r : V) (H' : Hp), Ext H H' → Dq H' r (placeD ps[i]) → Q r H'
theorem sc_pla : FnScope ["self", "place", "index", "mode", "arms"] ["self", "place", "index"] (defScope (cP 5)) := ⟨rfl, rfl, rfl, by decide +kernel, rfl, by decide +kernel, by decide +kernel⟩
theorem ok_pla {f : Addr} {fd : FuncData} (F : Fun K "_place_with_arm" "Program._place_with_arm" (cP 5) f fd) (T : BT mg) (L : PT K mg C) (C2 : Ca P w K mg base 2 "is_number" ["thing"] (spPred Any isNumD)) (MP : Cm P w K mg base C 3 "_place" ["self", "place"] (spPl C)) :
    FnOk P w K mg base CX0 4 f fd ["self", "place", "index"] (spPlArm C) := by
  refine F.ok sc_pla (fun vs H Q E h => ?_) (fun cdv A outer s H vs Q E hr h => ?_)
  · obtain ⟨p, ps, i, hi, j, hj, rfl, _⟩ := h
    rfl
  · obtain ⟨p, ps, i, hi, j, hj, rfl, hP, q⟩ := h
    refine ⟨_, (pss_cons (ps_asg (pe_cm MP L.cl (hr.mono (by decide)) (pv 0) (pa_cons (pv 1) pa_nil)) (pg_tup (by rfl) (pgs_cons (pg_name (i := 3) sc_pla.nd rfl (.inl rfl)) (pgs_cons (pg_name (i := 4) sc_pla.nd rfl (.inl rfl)) pgs_nil))))
      (pss_cons (ps_if (PW.pt (pw_or (pt_not (pt_val (pe_ca C2 (hr.mono (by decide)) (by rfl) (pa_cons (pv 2) pa_nil)))) (pw_or1 (pt_cmpR op_ge (pv 2) (pe_callB call_len_seq (by rfl) T.n_len (by decide +kernel) (pa_cons (pv 4) pa_nil)) (nomark _))))) (pss_one ps_never) pss_nil)
      (pss_one (ps_ret (pe_tup (pa_cons (pv 3) (pa_cons (pv 4) pa_nil))))))), ?_⟩
    obtain ⟨dx, t, u, xs, us, h1, _⟩ := id hP
    refine ⟨_, rfl, p, dx, _, rfl, h1, pf_no _ _ (by decide +kernel) (by decide +kernel), _, rfl, p, ps, i, hi, rfl, hP, fun r H1 e1 hr1 => ?_⟩
    obtain ⟨a, t2, ys, rfl, ha, ht2, hys⟩ := place_inv hr1
    have ly : ys.length = ps[i].2.length := by rw [hys.len, List.length_map]
    have nn : isNumD (.int (j : Int)) = true := by
      have : (0 : Int) ≤ (j : Int) := by omega
      simp [isNumD, this]
    refine ⟨a, _, rfl, SqT.of ha, rfl, _, _, rfl, _, _, rfl, rfl, ?_⟩
    refine ⟨_, rfl, _, _, rfl, .int _, trivial, fun H2 e2 => ⟨_, rfl, ?_⟩⟩
    rw [nn]
    refine iteF ?_
    refine ⟨_, rfl, _, rfl, t2, _, rfl, .inr (SqT.of (e2 _ _ ht2)), _, _, rfl, rfl, _, rfl, ?_⟩
    refine ite2 (fun g => ?_) (fun _ => ?_)
    · have := of_decide_eq_true g
      omega
    · refine ⟨_, rfl, _, rfl, by show 2 ≤ sizeLine; decide, fun t3 ht3 => ?_⟩
      have e3 := Ext.new (o := .tup [.str ps[i].1, .ref t2]) ht3
      exact q _ _ ((e1.trans e2).trans e3) (.tup upd_same (.cons (.str _) (.cons (.tup ((e2.trans e3) _ _ ht2) (DqAll.up (e2.trans e3) hys)) .nil)))
theorem sc_arm : FnScope ["self", "place", "index"] ["self", "place", "index"] (defScope (cP 10)) := ⟨rfl, rfl, rfl, by decide +kernel, rfl, by decide +kernel, by decide +kernel⟩
theorem ok_arm {f : Addr} {fd : FuncData} (F : Fun K "arm" "Program.arm" (cP 10) f fd) (L : PT K mg C) (MA : Cm P w K mg base C 4 "_place_with_arm" ["self", "place", "index"] (spPlArm C)) :
    FnOk P w K mg base CX0 5 f fd ["self", "place", "index"] (spArmAt C) := by
  refine F.ok sc_arm (fun vs H Q E h => ?_) (fun cdv A outer s H vs Q E hr h => ?_)
  · obtain ⟨p, ps, i, hi, j, hj, rfl, _⟩ := h
    rfl
  · obtain ⟨p, ps, i, hi, j, hj, rfl, hP, q⟩ := h
    refine ⟨_, (pss_one (ps_ret (pe_ix ix_tup (pe_ix ix_tup (pe_cm MA L.cl (hr.mono (by decide)) (pv 0) (pa_cons (pv 1) (pa_cons (pv 2) pa_nil))) pe_int (fun _ _ => rfl)) (pv 2) (fun _ _ => rfl)))), ?_⟩
    obtain ⟨dx, t, u, xs, us, h1, _⟩ := id hP
    refine ⟨_, rfl, p, dx, _, rfl, h1, pf_no _ _ (by decide +kernel) (by decide +kernel), _, rfl, _, rfl, p, ps, i, hi, j, hj, rfl, hP, fun r H1 e1 hr1 => ?_⟩
    obtain ⟨a, t2, ys, rfl, ha, ht2, hys⟩ := place_inv hr1
    obtain ⟨v, hv, dv⟩ := DqAll_get hys j (armD ps[i].2[j]) (by rw [List.getElem?_map, List.getElem?_eq_getElem hj]; rfl)
    exact ⟨a, _, _, _, rfl, rfl, SqT.of ha, rfl, _, rfl, t2, _, _, _, rfl, rfl, SqT.of ht2, atI_nat hv, q _ _ e1 dv⟩
def spUsed (C : Addr) : Sp := fun vs H Q _ => ∃ (p : Addr) (ps : List Place), vs = [.ref p] ∧ ProgAt C H p ps ∧
  ∀ (l : Addr) (us : List Str) (H' : Hp), H l = none → Ext H H' → H' l = some (.lst (us.map V.str)) → sortedS us = true → us.Nodup → us.length ≤ 40 → (∀ x, x ∈ us ↔ x ∈ lanesP ps) → Q (.ref l) H'
theorem sc_used : FnScope ["self"] ["self"] (defScope (cP 11)) := ⟨rfl, rfl, rfl, by decide +kernel, rfl, by decide +kernel, by decide +kernel⟩
theorem ok_used {f : Addr} {fd : FuncData} (F : Fun K "used" "Program.used" (cP 11) f fd) (T : BT mg) (L : PT K mg C) :
    FnOk P w K mg base CX0 1 f fd ["self"] (spUsed C) := by
  refine F.ok sc_used (fun vs H Q E h => ?_) (fun cdv A outer s H vs Q E hr h => ?_)
  · obtain ⟨p, ps, rfl, _⟩ := h
    rfl
  · obtain ⟨p, ps, rfl, hP, q⟩ := h
    refine ⟨_, (pss_one (ps_ret (pe_callTy call_list_of (by rfl) T.n_list (by decide +kernel) (pa_cons (pe_fld (pv 0) rfl) pa_nil)))), ?_⟩
    obtain ⟨dx, t, u, xs, us, h1, h2, h3, h4, h5, h6, h7, h8, _⟩ := hP
    refine ⟨_, rfl, p, C, dx, _, _, rfl, h1, L.cl, L.nU, pf_u _ _, u, _, rfl, .inr (SqT.of h4), fun l hl => ?_⟩
    exact q l us _ hl (Ext.new hl) upd_same h5 h6 h7 h8
end
end K28

set_option Elab.async false
set_option linter.all false
set_option maxRecDepth 100000
set_option maxHeartbeats 4000000
namespace K28
open PySem PySem.Spec PyProof.Rows L2 Ol RZ
open TL (tl)
section
variable {P : Program} {w : World} {K : PySem.W.Frag} {mg : Str → Option Value} {base : Heap} {C CP : Addr}
theorem len_sub : ∀ (us ns : List Str), us.Nodup → (∀ x ∈ us, x ∈ ns) → us.length ≤ ns.length
  | [], _, _, _ => Nat.zero_le _
  | u :: us, ns, hd, hs => by
    rw [List.nodup_cons] at hd
    have m : u ∈ ns := hs u List.mem_cons_self
    have ih := len_sub us (ns.erase u) hd.2 fun x hx => (List.mem_erase_of_ne (fun z => hd.1 (by rw [← z]; exact hx))).mpr (hs x (List.mem_cons_of_mem _ hx))
    rw [List.length_erase_of_mem m] at ih
    have := List.length_pos_of_mem m
    rw [List.length_cons]
    omega
/-- the method used -/
structure UsM (P : Program) (w : World) (K : PySem.W.Frag) (mg : Str → Option Value) (base : Heap) (C : Addr) : Prop where
  has : ∃ (f : Addr) (fd : FuncData), FnOk P w K mg base CX0 1 f fd ["self"] (spUsed C) ∧ Meth K C "used" f ∧ Binds K fd ["self"] []
def spCkL (C CP : Addr) : Sp := fun vs H Q _ => ∃ (lx l : Addr) (ns : List Str) (bs : List Int) (pp : List Addr), vs = [.ref lx, .ref l] ∧ LanesAt C H lx ns bs ∧ H l = some (.lst (pp.map V.ref)) ∧ pp.length ≤ 4 ∧ (∀ p ∈ pp, ∃ ps, ProgAt CP H p ps ∧ ∀ x ∈ lanesP ps, x ∈ ns) ∧ ∀ H', Ext H H' → Q .non H'
abbrev s_ckl : Stmt := (topS 32)
abbrev nCkl : List Str := ["lanes", "programs", "names", "program", "name"]
theorem sc_ckl : FnScope nCkl ["lanes", "programs"] (defScope s_ckl) := ⟨rfl, rfl, rfl, by decide +kernel, rfl, by decide +kernel, by decide +kernel⟩
theorem ok_ckl {f : Addr} {fd : FuncData} (F : Fun K "check_lanes" "check_lanes" s_ckl f fd) (T : BT mg) (LP : PT K mg CP) (MU : UsM P w K mg base CP)
    (MH : Cm P w K mg base C 2 "__contains__" ["self", "thing"] (spHas C)) :
    FnOk P w K mg base CX0 3 f fd ["lanes", "programs"] (spCkL C CP) := by
  obtain ⟨fU, fdU, FU, mu, bU⟩ := MU.has
  refine F.ok sc_ckl (fun vs H Q E h => ?_) (fun cdv A outer s H vs Q E hr h => ?_)
  · obtain ⟨lx, l, ns, bs, pp, rfl, _⟩ := h
    rfl
  · obtain ⟨lx, l, ns, bs, pp, rfl, hL, hl, h4p, hP, q⟩ := h
    have mlp : (pp.map V.ref).length = pp.length := List.length_map ..
    refine ⟨_, (pss_cons (ps_setDc2 (i := 2) (own := [("program", 3), ("name", 4)]) (vs1 := [4]) (g := gName 3) (g1 := gName 4) (tt := tYes) (tt1 := tYes) (wi1 := iList K (tMeth CP "used" (spUsed CP) [] E0 (tVar 3) tNil)) rfl sc_ckl.nd rfl rfl (sw_dict rfl rfl rfl (by decide +kernel)) (pi_list (pv 1)) (blkOk_by (N := nCkl) (sc := defScope s_ckl) (by decide +kernel)) (by decide)
          (fun _ _ _ _ _ => pg_name (i := 3) sc_ckl.nd rfl (.inl rfl)) (fun _ _ _ _ _ => pts_nil) (fun _ _ _ _ _ => pi_list (pe_meth0 (pv 3) LP.cl mu FU (hr.mono (by decide)) bU .nil pass0)) (fun _ _ _ _ _ => pg_name (i := 4) sc_ckl.nd rfl (.inl rfl)) (fun _ _ _ _ _ => pts_nil) (fun _ _ _ _ _ => pv 4) (fun _ _ _ _ _ => pe_bl))
      (pss_one (ps_for PassesOwn.never rfl (pi_list (pe_callB (call_sortedD rfl) (by rfl) T.n_sorted (by decide +kernel) (pa_cons (pv 2) pa_nil))) (pg_name (i := 4) sc_ckl.nd rfl (.inl rfl))
        (pss_one (ps_if (pt_cmpR (op_notInM MH (hr.mono (by decide))) (pv 4) (pv 0) (by rfl)) (pss_one ps_never) pss_nil))))), ?_⟩
    refine ⟨_, rfl, l, rfl, ⟨_, SqL.of hl⟩, fun D hD => ?_⟩
    refine dc2_acc (walk_list (xs := pp.map V.ref)) (fun i j kvs _ => ∃ us : List Str, kvs = kvT us ∧ us.Nodup ∧ (∀ x ∈ us, x ∈ ns) ∧ us.length ≤ 40 * i + j ∧ i ≤ 4 ∧ j ≤ 40) (fun _ _ _ _ _ _ h => h)
      ⟨[], rfl, List.nodup_nil, (fun x hx => by cases hx), by decide, by decide, by decide⟩ hD
      (fun i j kvs _ ⟨us, e, _, _, h1, h2, h3⟩ => by rw [e]; unfold kvT; rw [List.length_map]; exact Nat.lt_of_le_of_lt (show _ ≤ 200 by omega) (by decide)) (fun H' e => SqL.of (e _ _ hl)) ?_ ?_
    · rintro i x Hi H' kvs hi e hy ⟨rfl, hxi⟩ hPi R hR
      rw [mlp] at hi
      rw [List.getElem?_map, List.getElem?_eq_getElem hi] at hxi
      cases hxi
      obtain ⟨ps, hPs, hsub⟩ := hP _ (List.getElem_mem hi)
      have hP' := hPs.up e
      obtain ⟨dx, t, u, xs, us0, h1, _⟩ := id hP'
      refine ⟨rfl, ?_⟩
      refine ⟨_, rfl, pp[i], dx, _, rfl, h1, pf_no _ _ (by decide +kernel) (by decide +kernel), pp[i], ps, rfl, hP', fun lu us H3 nlu e3 hlu _ hnd hlen hmem => ⟨lu, rfl, ⟨_, SqL.of hlu⟩, hR _ _ _ ⟨e3, (us.map V.str).length, _, _, walk_list (xs := us.map V.str), fun Hz ez => SqL.of (ez _ _ ?_), ?_, ?_⟩⟩⟩
      · rw [del_ne (fun z => by rw [z, hy] at nlu; cases nlu)]
        exact hlu
      · rintro kvs Hz ⟨ks, a1, a2, a3, a4, a5, a6⟩
        rw [List.length_map] at a4
        exact ⟨ks, a1, a2, a3, by omega, by omega, by omega⟩
      · rintro j y Ha Hb kvs hj eH ha2 ⟨rfl, hyj⟩ ⟨ks, rfl, a2, a3, a4, a5, a6⟩ QY QN kY kN
        rw [List.length_map] at hj
        rw [List.getElem?_map, List.getElem?_eq_getElem hj] at hyj
        cases hyj
        refine ⟨rfl, ?_⟩
        refine tyes ?_
        have mm : us[j] ∈ ns := hsub _ ((hmem _).mp (List.getElem_mem hj))
        refine ⟨_, rfl, ?_⟩
        by_cases m : us[j] ∈ ks
        · exact kY (.inr us[j]) (.bl true) _ (Ext.refl _) ⟨ks, kvT_put m, a2, a3, by omega, a5, by omega⟩
        · refine kY (.inr us[j]) (.bl true) _ (Ext.refl _) ⟨ks ++ [us[j]], kvT_new m, ?_, fun z hz => ?_, by rw [List.length_append, List.length_singleton]; omega, a5, by omega⟩
          · refine List.nodup_append.mpr ⟨a2, by simp, fun c hc d hd e => ?_⟩
            rw [List.mem_singleton.mp hd] at e
            exact m (e ▸ hc)
          · rcases List.mem_append.mp hz with h | h
            · exact a3 z h
            · rw [List.mem_singleton.mp h]
              exact mm
    rintro H4 kvs e4 hD4 ⟨us, rfl, a2, a3, a4, _, _⟩
    have kk : (kvT us).map (·.1) = us.map Sum.inr := by
      unfold kvT
      rw [List.map_map]
      rfl
    have a4' : us.length ≤ 60 := by
      obtain ⟨_, _, _, _, _, _, _, _, _, _, hl2, _⟩ := id hL
      exact Nat.le_trans (len_sub us ns a2 a3) hl2
    refine ⟨_, rfl, D, _, us, rfl, Rd.of hD4, kk, by omega, fun vs l2 hperm hso hl2 => ?_⟩
    have e5 := Ext.new (o := .lst (vs.map V.str)) hl2
    have k5 := upd_same (H := H4) (a := l2) (o := HO.lst (vs.map V.str))
    generalize upd H4 l2 (.lst (vs.map V.str)) = H5 at *
    refine ⟨l2, rfl, ⟨_, SqL.of k5⟩, ?_⟩
    have e45 := e4.trans e5
    refine for_list (xs := vs.map V.str) (fun i σ H' => ∃ s4, σ = [some (.ref lx), some (.ref l), some (.ref D), none, s4] ∧ Ext H5 H')
      ⟨_, rfl, Ext.refl _⟩ (fun i σ H' _ ⟨_, _, e⟩ => SqL.of (e _ _ k5)) ?_ ?_
    · rintro i x σ H6 hxi ⟨s4, rfl, e6⟩
      have hi : i < vs.length := by have := (List.getElem?_eq_some_iff.mp hxi).1; rw [List.length_map] at this; exact this
      rw [List.getElem?_map, List.getElem?_eq_getElem hi] at hxi
      cases hxi
      have mm : vs[i] ∈ ns := a3 _ (hperm.mem_iff.mp (List.getElem_mem hi))
      have hL6 := hL.up (e45.trans e6)
      obtain ⟨dx, n, b, sp, h1, h2, h3, h4, hl0, hnd, hl2', hns, hbs⟩ := id hL6
      refine ⟨_, rfl, _, rfl, lx, dx, _, rfl, h1, lx, ns, bs, _, rfl, hL6, hns _ mm, fun H7 e7 => ⟨_, rfl, ?_⟩⟩
      rw [decide_eq_true mm]
      refine ⟨_, rfl, ?_⟩
      refine iteF ?_
      exact ⟨_, rfl, e6.trans e7⟩
    · rintro σ H6 ⟨s4, rfl, e6⟩
      exact q _ (e45.trans e6)
end
end K28

set_option Elab.async false
set_option linter.all false
set_option maxRecDepth 100000
set_option maxHeartbeats 4000000
namespace K28
open PySem PySem.Spec PyProof.Rows L2 Ol RZ
open TL (tl)
/-! ### _law_arm -/
abbrev w9V : List V := [.str "send", .str "take", .str "send", .str "take", .str "ended", .str "close", .str "else", .str "send", .str "take"]
theorem w9 {i : Nat} (h : i < 9) : ∃ x, w9V[i]? = some (.str x) ∧ (x = "else" ∨ x ∈ words4) := by
  have : i = 0 ∨ i = 1 ∨ i = 2 ∨ i = 3 ∨ i = 4 ∨ i = 5 ∨ i = 6 ∨ i = 7 ∨ i = 8 := by omega
  rcases this with rfl | rfl | rfl | rfl | rfl | rfl | rfl | rfl | rfl <;> first | exact ⟨_, rfl, .inr (by decide +kernel)⟩ | exact ⟨_, rfl, .inl rfl⟩
section
variable {P : Program} {w : World} {K : PySem.W.Frag} {mg : Str → Option Value} {base : Heap} {C CP : Addr}
def spLArm : Sp := fun vs H Q _ => ∃ (p nl : Addr) (ns : List Str) (pl : Nat), vs = [.ref p, .ref nl, .int (pl : Int)] ∧ Bag H p ∧ H nl = some (.lst (ns.map V.str)) ∧ 1 ≤ ns.length ∧ ns.length ≤ 3 ∧ (∀ x ∈ ns, isNameS x = true) ∧ 1 ≤ pl ∧ pl ≤ 5 ∧
  ∀ (r : Addr) (H' : Hp) (a : Arm), Ext H H' → Dq H' (.ref r) (armD a) → GArm a → a.2 < pl → (∀ p, a.1 = some p → p.2 ∈ ns) → Q (.ref r) H'
abbrev s__law_arm : Stmt := (topS 44)
theorem sc__law_arm : FnScope ["_law_bag_here", "_law_names_here", "_law_places", "_law_word"] ["_law_bag_here", "_law_names_here", "_law_places"] (defScope s__law_arm) := ⟨rfl, rfl, rfl, by decide +kernel, rfl, by decide +kernel, by decide +kernel⟩
theorem ok_larm {f : Addr} {fd : FuncData} (F : Fun K "_law_arm" "_law_arm" s__law_arm f fd) (T : BT mg)
    (CT : Ca P w K mg base 1 "_law_take" ["_law_bag_here", "_law_many"] spTake) :
    FnOk P w K mg base CX0 2 f fd ["_law_bag_here", "_law_names_here", "_law_places"] spLArm := by
  refine F.ok sc__law_arm (fun vs H Q E h => ?_) (fun cdv A outer s H vs Q E hr h => ?_)
  · obtain ⟨p, nl, ns, pl, rfl, _⟩ := h
    rfl
  · obtain ⟨p, nl, ns, pl, rfl, hB, hnl, n1, n3, hns, p1, p5, q⟩ := h
    refine ⟨_, (pss_cons (ps_set (i := 3) sc__law_arm.nd rfl (.inl rfl) (pe_ix ix_list (pe_lst (pa_cons pe_str (pa_cons pe_str (pa_cons pe_str (pa_cons pe_str (pa_cons pe_str (pa_cons pe_str (pa_cons pe_str (pa_cons pe_str (pa_cons pe_str pa_nil)))))))))) (pe_ca CT (hr.mono (by decide)) (by rfl) (pa_cons (pv 0) (pa_cons pe_int pa_nil))) (fun _ _ => rfl)))
    (pss_cons (ps_if (pt_cmpR op_eq (pv 3) pe_str (nomark _))
      (pss_one (ps_ret (pe_tup (pa_cons pe_str (pa_cons (pe_ca CT (hr.mono (by decide)) (by rfl) (pa_cons (pv 0) (pa_cons (pv 2) pa_nil))) pa_nil)))))
      pss_nil)
    (pss_one (ps_ret (pe_tup (pa_cons (pv 3) (pa_cons (pe_ix ix_list (pv 1) (pe_ca CT (hr.mono (by decide)) (by rfl) (pa_cons (pv 0) (pa_cons (pe_callB call_len_seq (by rfl) T.n_len (by decide +kernel) (pa_cons (pv 1) pa_nil)) pa_nil))) (fun _ _ => rfl)) (pa_cons (pe_ca CT (hr.mono (by decide)) (by rfl) (pa_cons (pv 0) (pa_cons (pv 2) pa_nil))) pa_nil)))))))), ?_⟩
    refine ⟨by show 9 ≤ sizeLine; decide, fun l hl => ?_⟩
    have e1 := Ext.new (o := .lst w9V) hl
    have h1 : upd H l (.lst w9V) l = some (.lst w9V) := upd_same
    generalize upd H l _ = H1 at e1 h1 ⊢
    refine ⟨_, rfl, p, 9, rfl, hB.up e1, by decide, by decide, fun r r0 r1 => ?_⟩
    obtain ⟨i, rfl⟩ := Int.eq_ofNat_of_zero_le r0
    obtain ⟨x, hx, hw⟩ := w9 (i := i) (by omega)
    refine ⟨l, _, (i : Int), .str x, rfl, rfl, SqL.of h1, atI_nat hx, ?_⟩
    refine ⟨_, rfl, rfl, _, rfl, ?_⟩
    refine ite2 (fun g => ?_) (fun g => ?_)
    · refine ⟨_, rfl, _, rfl, p, _, rfl, hB.up e1, by omega, by omega, fun g g0 g1 => ⟨by show 2 ≤ sizeLine; decide, fun t ht => ?_⟩⟩
      obtain ⟨gn, rfl⟩ := Int.eq_ofNat_of_zero_le g0
      refine q t _ (none, gn) (e1.trans (Ext.new ht)) (.tup upd_same (.cons (.str _) (.cons (.int _) .nil))) trivial (by show gn < pl; omega) (fun p hp => by cases hp)
    · have hw4 : x ∈ words4 := by
        rcases hw with h | h
        · exact absurd (dec_word.mpr h) g
        · exact h
      refine ⟨_, rfl, _, rfl, _, rfl, _, rfl, nl, _, rfl, .inl (SqL.of (e1 _ _ hnl)), p, _, rfl, hB.up e1, by rw [List.length_map]; omega, by rw [List.length_map]; omega, fun j j0 j1 => ?_⟩
      rw [List.length_map] at j1
      obtain ⟨jn, rfl⟩ := Int.eq_ofNat_of_zero_le j0
      have hj : jn < ns.length := by omega
      refine ⟨nl, _, (jn : Int), .str ns[jn], rfl, rfl, SqL.of (e1 _ _ hnl), atI_nat (ix_get jn hj), ?_⟩
      refine ⟨_, rfl, _, rfl, p, _, rfl, hB.up e1, by omega, by omega, fun g g0 g1 => ⟨by show 3 ≤ sizeLine; decide, fun t ht => ?_⟩⟩
      obtain ⟨gn, rfl⟩ := Int.eq_ofNat_of_zero_le g0
      refine q t _ (some (x, ns[jn]), gn) (e1.trans (Ext.new ht)) (.tup upd_same (.cons (.str _) (.cons (.str _) (.cons (.int _) .nil)))) ⟨hw4, hns _ (List.getElem_mem hj)⟩ (by show gn < pl; omega) (fun p hp => by cases hp; exact List.getElem_mem hj)
end
end K28

set_option Elab.async false
set_option linter.all false
set_option maxRecDepth 100000
set_option maxHeartbeats 4000000
namespace K28
open PySem PySem.Spec PyProof.Rows L2 Ol RZ
open TL (tl)
/-! ### sizes of arms -/
theorem sysUp {H H' : Hp} (h : Sys H) (e : Ext H H') : Sys H' := by
  obtain ⟨o, u, q⟩ := h
  exact ⟨o, u, e _ _ q⟩
theorem eqv_e (ds : List PyData) : PyData.eqv (.list ds) (.list []) = ds.isEmpty := by
  cases ds <;> simp [PyData.eqv, PyData.eqvAll]
theorem gd_nat5 {n : Nat} (h : n ≤ 6) : Gd 0 (.int (n : Int)) := by
  have : n = 0 ∨ n = 1 ∨ n = 2 ∨ n = 3 ∨ n = 4 ∨ n = 5 ∨ n = 6 := by omega
  rcases this with rfl | rfl | rfl | rfl | rfl | rfl | rfl <;> exact gd_int _ (by decide +kernel) (by decide +kernel)
theorem gd_arm {a : Arm} (h : GArm a) (hg : a.2 ≤ 6) : Gd 1 (armD a) := by
  obtain ⟨o, g⟩ := a
  cases o with
  | none =>
    refine gd_tuple (fun d hd => ?_) (by simp)
    simp only [List.mem_cons, List.not_mem_nil, or_false] at hd
    rcases hd with rfl | rfl
    · exact gd_str _ (by decide +kernel) (by decide +kernel)
    · exact gd_nat5 hg
  | some p =>
    obtain ⟨w, l⟩ := p
    have h' : w ∈ words4 ∧ isNameS l = true := h
    refine gd_tuple (fun d hd => ?_) (by simp)
    simp only [List.mem_cons, List.not_mem_nil, or_false] at hd
    rcases hd with rfl | rfl | rfl
    · exact word_gd _ h'.1
    · exact name_gd h'.2
    · exact gd_nat5 hg
theorem lay_arm {a : Arm} (h : GArm a) : (armD a).canLay0 = true := by
  obtain ⟨o, g⟩ := a
  cases o with
  | none =>
    show (PyData.tuple [.str "else", .int (g : Int)]).canLay0 = true
    simp only [PyData.canLay0, PyData.canLayAll0, Bool.and_true]
    decide +kernel
  | some p =>
    obtain ⟨w, l⟩ := p
    have h' : w ∈ words4 ∧ isNameS l = true := h
    show (PyData.tuple [.str w, .str l, .int (g : Int)]).canLay0 = true
    simp only [PyData.canLay0, PyData.canLayAll0, Bool.and_true, Bool.and_eq_true]
    exact ⟨word_ok _ h'.1, name_ok h'.2⟩
theorem arms_shaped {as : List Arm} (h : ∀ a ∈ as, GArm a ∧ a.2 ≤ 6) : SeqAt.shaped (.list (as.map armD)) = true := by
  have hg : ∀ d ∈ as.map armD, Gd 1 d := fun d hd => by
    obtain ⟨a, ha, rfl⟩ := List.mem_map.mp hd
    exact gd_arm (h a ha).1 (h a ha).2
  refine lay_shaped ?_ ?_
  · rw [PyData.canLay0]
    refine lay_all fun d hd => ?_
    obtain ⟨a, ha, rfl⟩ := List.mem_map.mp hd
    exact lay_arm (h a ha).1
  · have := (all_sh hg).2.1
    simp only [PyData.depth]
    omega
theorem nil_shaped : SeqAt.shaped (.list []) = true := by
  refine lay_shaped (by simp [PyData.canLay0, PyData.canLayAll0]) (by simp [PyData.depth, PyData.depthAll])
theorem filt_step {as : List Arm} {k : Nat} (h : k < as.length) (q : Arm → Bool) : (as.take (k + 1)).filter q = (as.take k).filter q ++ (if q as[k] = true then [as[k]] else []) := by
  rw [List.take_add_one, List.getElem?_eq_getElem h, List.filter_append]
  congr 1
  cases hq : q as[k] <;> simp [hq]
theorem arm_at {H : Hp} {r : Addr} {a : Arm} (h : Dq H (.ref r) (armD a)) : ∃ xs, H r = some (.tup xs) ∧ ∀ H' : Hp, H' r = some (.tup xs) → Dq H' (.ref r) (armD a) := by
  obtain ⟨o, g⟩ := a
  cases o with
  | none =>
    obtain ⟨t, xs, ds, e, ed, h1, h2⟩ := dq_tup (d := .tuple [.str "else", .int (g : Int)]) h rfl
    cases e
    cases ed
    refine ⟨xs, h1, fun H' h' => ?_⟩
    cases h2 with
    | cons a1 t1 => cases t1 with
      | cons a2 t2 =>
        cases t2
        cases a1
        cases a2
        exact .tup h' (.cons (.str _) (.cons (.int _) .nil))
  | some p =>
    obtain ⟨t, xs, ds, e, ed, h1, h2⟩ := dq_tup (d := .tuple [.str p.1, .str p.2, .int (g : Int)]) h rfl
    cases e
    cases ed
    refine ⟨xs, h1, fun H' h' => ?_⟩
    cases h2 with
    | cons a1 t1 => cases t1 with
      | cons a2 t2 => cases t2 with
        | cons a3 t3 =>
          cases t3
          cases a1
          cases a2
          cases a3
          exact .tup h' (.cons (.str _) (.cons (.str _) (.cons (.int _) .nil)))
theorem els_iff {a : Arm} (h : GArm a) : ((match a.1 with | some p => p.1 | none => ("else" : Str)) : Str) = ("else" : Str) ↔ a.1.isNone = true := by
  obtain ⟨o, g⟩ := a
  cases o with
  | none => exact ⟨fun _ => rfl, fun _ => rfl⟩
  | some p =>
    have h' : p.1 ∈ words4 ∧ isNameS p.2 = true := h
    refine ⟨fun z => ?_, fun z => Bool.noConfusion z⟩
    have hw := h'.1
    have z' : p.1 = "else" := z
    rw [z'] at hw
    exact absurd hw (by decide +kernel)
/-- the arms found so far -/
def InA (n : Nat) (ns : List Str) (Hb : Hp) (al fl : Addr) (j : Nat) (H' : Hp) : Prop := ∃ (ys : List V) (as : List Arm), Ext Hb H' ∧ H' al = some (.lst ys) ∧ DqAll (del (del H' al) fl) ys (as.map armD) ∧ as.length ≤ j ∧
  (∀ a ∈ as, GArm a ∧ a.2 < n ∧ ∀ p, a.1 = some p → p.2 ∈ ns) ∧ (as.filter fun a : Arm => a.1.isNone).length ≤ 1
theorem InA.add {n : Nat} {ns : List Str} {Hb H6 H7 : Hp} {al fl : Addr} {j : Nat} {ys : List V} {as : List Arm} {a : Arm} {r : Addr} (hal : Hb al = none) (e : Ext Hb H6) (e67 : Ext H6 H7)
    (hy : DqAll (del (del H6 al) fl) ys (as.map armD)) (hl : as.length ≤ j) (ga : ∀ a ∈ as, GArm a ∧ a.2 < n ∧ ∀ p, a.1 = some p → p.2 ∈ ns) (he : (as.filter fun a : Arm => a.1.isNone).length ≤ 1)
    (hr : Dq (del (del H7 al) fl) (.ref r) (armD a)) (g : GArm a ∧ a.2 < n ∧ ∀ p, a.1 = some p → p.2 ∈ ns) (hc : (as.filter fun a : Arm => a.1.isNone).length = 0 ∨ a.1.isNone = false) :
    InA n ns Hb al fl (j + 1) (upd H7 al (.lst (ys ++ [.ref r]))) := by
  refine ⟨ys ++ [.ref r], as ++ [a], Ext.mut (e.trans e67) hal, upd_same, ?_, by rw [List.length_append, List.length_singleton]; omega, fun b hb => ?_, ?_⟩
  · rw [del_upd, List.map_append]
    exact dq_app (DqAll.up (ext_del (ext_del e67)) hy) (.cons hr .nil)
  · rcases List.mem_append.mp hb with h | h
    · exact ga b h
    · rw [List.mem_singleton.mp h]
      exact g
  · rw [List.filter_append, List.length_append]
    rcases hc with h | h
    · rw [h]
      have : ([a].filter fun a : Arm => a.1.isNone).length ≤ 1 := Nat.le_trans (List.length_filter_le ..) (by simp)
      omega
    · rw [List.filter_cons_of_neg (by rw [h]; decide)]
      simpa using he
/-! ### _law_program -/
structure GL (n : Nat) (ns : List Str) (p : Place) : Prop where
  place : GPlace n p
  few : p.2.length ≤ 3
  lanes : ∀ x ∈ lanesA p.2, x ∈ ns
section
variable {P : Program} {w : World} {K : PySem.W.Frag} {mg : Str → Option Value} {base : Heap} {C CP : Addr}
def spLProg : Sp := fun vs H Q _ => ∃ (p nl : Addr) (ns : List Str) (n : Nat), vs = [.ref p, .ref nl, .int (n : Int)] ∧ Sys H ∧ Bag H p ∧ H nl = some (.lst (ns.map V.str)) ∧ 1 ≤ ns.length ∧ ns.length ≤ 3 ∧ (∀ x ∈ ns, isNameS x = true) ∧ 1 ≤ n ∧ n ≤ 5 ∧
  ∀ (fl : Addr) (xs : List V) (ps : List Place) (H' : Hp), H fl = none → Ext H H' → H' fl = some (.lst xs) → DqAll (del H' fl) xs (ps.map placeD) → ps.length = n → (∀ q ∈ ps, GL n ns q) → Q (.ref fl) H'
abbrev s__law_program : Stmt := (topS 45)
abbrev nLPr : List Str := ["_law_bag_here", "_law_names_here", "_law_places", "_law_found", "_law_place", "_law_mode", "_law_arms", "_law_k", "_law_arm_here", "_law_one"]
theorem sc__law_program : FnScope nLPr ["_law_bag_here", "_law_names_here", "_law_places"] (defScope s__law_program) := ⟨rfl, rfl, rfl, by decide +kernel, rfl, by decide +kernel, by decide +kernel⟩
abbrev k8V : List V := [.int 1, .int 2, .int 1, .int 2, .int 3, .int 0, .int 2, .int 1]
theorem k8 {i : Nat} (h : i < 8) : ∃ m : Nat, k8V[i]? = some (.int (m : Int)) ∧ m ≤ 3 := by
  have : i = 0 ∨ i = 1 ∨ i = 2 ∨ i = 3 ∨ i = 4 ∨ i = 5 ∨ i = 6 ∨ i = 7 := by omega
  rcases this with rfl | rfl | rfl | rfl | rfl | rfl | rfl | rfl
  · exact ⟨1, rfl, by decide⟩
  · exact ⟨2, rfl, by decide⟩
  · exact ⟨1, rfl, by decide⟩
  · exact ⟨2, rfl, by decide⟩
  · exact ⟨3, rfl, by decide⟩
  · exact ⟨0, rfl, by decide⟩
  · exact ⟨2, rfl, by decide⟩
  · exact ⟨1, rfl, by decide⟩
theorem ok_lprog {f : Addr} {fd : FuncData} (F : Fun K "_law_program" "_law_program" s__law_program f fd) (T : BT mg)
    (CT : Ca P w K mg base 1 "_law_take" ["_law_bag_here", "_law_many"] spTake) (CAr : Ca P w K mg base 2 "_law_arm" ["_law_bag_here", "_law_names_here", "_law_places"] spLArm) :
    FnOk P w K mg base CX0 3 f fd ["_law_bag_here", "_law_names_here", "_law_places"] spLProg := by
  refine F.ok sc__law_program (fun vs H Q E h => ?_) (fun cdv A outer s H vs Q E hr h => ?_)
  · obtain ⟨p, nl, ns, n, rfl, _⟩ := h
    rfl
  · obtain ⟨p, nl, ns, n, rfl, hS, hB, hnl, n1, n3, hns, p1, p5, q⟩ := h
    refine ⟨_, (pss_cons (ps_set (i := 3) sc__law_program.nd rfl (.inl rfl) (pe_lst pa_nil))
    (pss_cons (ps_for PassesOwn.never rfl (pi_range1 (by rfl) T.n_range (pa_cons (pv 2) pa_nil)) (pg_name (i := 4) sc__law_program.nd rfl (.inl rfl))
      (pss_cons (ps_par (i := 5) (j := 6) rfl sc__law_program.nd rfl rfl (by decide) rfl rfl (pa_cons (pe_ix ix_list (pe_lst (pa_cons pe_str (pa_cons pe_str pa_nil))) (pe_ca CT (hr.mono (by decide)) (by rfl) (pa_cons (pv 0) (pa_cons pe_int pa_nil))) (fun _ _ => rfl)) (pa_cons (pe_lst pa_nil) pa_nil)) (by rfl))
      (pss_cons (ps_for PassesOwn.never rfl (pi_range1 (by rfl) T.n_range (pa_cons (pe_ix ix_list (pe_lst (pa_cons pe_int (pa_cons pe_int (pa_cons pe_int (pa_cons pe_int (pa_cons pe_int (pa_cons pe_int (pa_cons pe_int (pa_cons pe_int pa_nil))))))))) (pe_ca CT (hr.mono (by decide)) (by rfl) (pa_cons (pv 0) (pa_cons pe_int pa_nil))) (fun _ _ => rfl)) pa_nil)) (pg_name (i := 7) sc__law_program.nd rfl (.inl rfl))
        (pss_cons (ps_set (i := 8) sc__law_program.nd rfl (.inl rfl) (pe_ca CAr (hr.mono (by decide)) (by rfl) (pa_cons (pv 0) (pa_cons (pv 1) (pa_cons (pv 2) pa_nil)))))
        (pss_one (ps_if (PW.pt (pw_or (pt_cmpR op_ne (pe_ix ix_tup (pv 8) pe_int (fun _ _ => rfl)) pe_str (nomark _)) (pw_or1 (pt_cmpR (op_eqQ hr) (pe_lc (own := [("_law_one", 9)]) (g := gName 9) (tt := tTest (tOp rEq (tOp (rIxT K) (tVar 9) (tC (.int 0))) (tC (.str "else")))) rfl sc__law_program.nd (pi_list (pv 6)) (blkOk_by (N := nLPr) (sc := defScope s__law_program) (by decide +kernel)) (fun _ _ _ _ _ => (pg_name (i := 9) sc__law_program.nd rfl (.inl rfl))) (fun _ _ _ _ _ => (pts_one (pt_cmpR op_eq (pe_ix ix_tup (pv 9) pe_int (fun _ _ => rfl)) pe_str (nomark _)))) (fun _ _ _ _ _ => (pv 9))) (pe_lst pa_nil) (nomark _)))))
          (pss_one (ps_expr (pe_bm PySem.F.plainAttrs_list PySem.F.slot_list_append PySem.F.type_list_append mt_append (pv 6) (pa_cons (pv 8) pa_nil))))
          pss_nil))))
      (pss_one (ps_expr (pe_bm PySem.F.plainAttrs_list PySem.F.slot_list_append PySem.F.type_list_append mt_append (pv 3) (pa_cons (pe_tup (pa_cons (pv 5) (pa_cons (pe_callTy call_tuple_of (by rfl) T.n_tuple (by decide +kernel) (pa_cons (pv 6) pa_nil)) pa_nil))) pa_nil)))))))
    (pss_one (ps_ret (pv 3))))), ?_⟩
    refine ⟨by show 0 ≤ sizeLine; decide, fun fl hfl => ?_⟩
    have e0 := Ext.new (o := .lst []) hfl
    refine ⟨_, rfl, _, rfl, by omega, by omega, ?_⟩
    refine for_range (fun i σ H' => ∃ s4 s5 s6 s7 s8 s9 xs ps, σ = [some (.ref p), some (.ref nl), some (.int (n : Int)), some (.ref fl), s4, s5, s6, s7, s8, s9] ∧ Ext H H' ∧ H' fl = some (.lst xs) ∧ DqAll (del H' fl) xs (ps.map placeD) ∧ ps.length = i ∧ ∀ q ∈ ps, GL n ns q)
      ⟨none, none, none, none, none, none, [], [], rfl, e0, upd_same, .nil, rfl, fun q hq => by cases hq⟩ ?_ ?_
    · rintro i σ H1 hi ⟨s4, s5, s6, s7, s8, s9, xs, ps, rfl, e1, f1, hx, hl, gd⟩
      have hi5 : i < 5 := by omega
      refine ⟨by show 2 ≤ sizeLine; decide, fun l hl2 => ?_⟩
      have x1 := Ext.new (o := .lst [V.str "first", V.str "any"]) hl2
      have y1 : upd H1 l (.lst [V.str "first", V.str "any"]) l = some (.lst [V.str "first", V.str "any"]) := upd_same
      generalize upd H1 l _ = H2 at x1 y1 ⊢
      have e2 := e1.trans x1
      refine ⟨_, rfl, p, 2, rfl, hB.up e2, by decide, by decide, fun r r0 r1 => ?_⟩
      obtain ⟨m, hm, hmd⟩ : ∃ m : Str, atI [V.str "first", V.str "any"] r = some (.str m) ∧ (m = "first" ∨ m = "any") := by
        have : r = 0 ∨ r = 1 := by omega
        rcases this with rfl | rfl
        · exact ⟨_, rfl, .inl rfl⟩
        · exact ⟨_, rfl, .inr rfl⟩
      refine ⟨l, _, r, .str m, rfl, rfl, SqL.of y1, hm, ?_⟩
      refine ⟨by show 0 ≤ sizeLine; decide, fun al hal => ⟨_, _, rfl, ?_⟩⟩
      have e3 := Ext.new (o := .lst []) hal
      have f2 := x1 _ _ f1
      have nfa : al ≠ fl := fun z => by rw [z, f2] at hal; cases hal
      refine ⟨by show 8 ≤ sizeLine; decide, fun l3 hl3 => ?_⟩
      have x4 := Ext.new (o := .lst k8V) hl3
      have y4 : upd (upd H2 al (.lst [])) l3 (.lst k8V) l3 = some (.lst k8V) := upd_same
      have ya : upd (upd H2 al (.lst [])) l3 (.lst k8V) al = some (.lst []) := x4 _ _ upd_same
      have e24 : Ext H2 (upd (upd H2 al (.lst [])) l3 (.lst k8V)) := e3.trans x4
      generalize upd (upd H2 al (.lst [])) l3 _ = H4 at e24 y4 ya ⊢
      refine ⟨_, rfl, p, 8, rfl, hB.up (e2.trans e24), by decide, by decide, fun r8 r80 r81 => ?_⟩
      obtain ⟨i8, rfl⟩ := Int.eq_ofNat_of_zero_le r80
      obtain ⟨m8, hm8, l8⟩ := k8 (i := i8) (by omega)
      refine ⟨l3, _, (i8 : Int), .int (m8 : Int), rfl, rfl, SqL.of y4, atI_nat hm8, _, rfl, by omega, by omega, ?_⟩
      refine for_range (fun j σ H' => ∃ s7 s8 s9, σ = [some (.ref p), some (.ref nl), some (.int (n : Int)), some (.ref fl), some (.int (0 + (i : Int))), some (.str m), some (.ref al), s7, s8, s9] ∧ InA n ns H2 al fl j H')
        ⟨_, _, _, rfl, [], [], e24, ya, .nil, by simp, fun a ha => (by cases ha), by simp⟩ ?_ ?_
      · rintro j σ H5 hj ⟨s7, s8, s9, rfl, ys, as, e5, a5, hy, hla, ga, he⟩
        have hj3 : j < 3 := by omega
        have hB5 := hB.up (e2.trans e5)
        refine ⟨_, rfl, _, rfl, _, rfl, p, nl, ns, n, rfl, hB5, (e2.trans e5) _ _ hnl, n1, n3, hns, p1, p5, fun r H6 a e6 hra g1 g2 g3 => ?_⟩
        have e56 := e5.trans e6
        have a6 := e6 _ _ a5
        have f6 := e56 _ _ f2
        have lys : ys.length = as.length := by rw [hy.len, List.length_map]
        obtain ⟨ws, h4, re⟩ := arm_at hra
        obtain ⟨t4, ws4, et4, h4', _, h40, _⟩ := arm_inv hra
        cases et4
        rw [h4] at h4'
        cases h4'
        have nta : r ≠ al := fun z => by rw [z, a6] at h4; cases h4
        have ntf : r ≠ fl := fun z => by rw [z, f6] at h4; cases h4
        have hra' : ∀ H7 : Hp, Ext H6 H7 → Dq (del (del H7 al) fl) (.ref r) (armD a) := fun H7 e7 => re _ (by rw [del_ne ntf, del_ne nta]; exact e7 _ _ h4)
        have hy6 : DqAll (del (del H6 al) fl) ys (as.map armD) := DqAll.up (ext_del (ext_del e6)) hy
        have hlen : ys.length < sizeLine := by rw [lys]; exact Nat.lt_of_le_of_lt (show _ ≤ 3 by omega) (by decide)
        have nxt : ∀ H7 : Hp, Ext H6 H7 → ((as.filter fun a : Arm => a.1.isNone).length = 0 ∨ a.1.isNone = false) → InA n ns H2 al fl (j + 1) (upd H7 al (.lst (ys ++ [.ref r]))) := fun H7 e7 hc =>
          InA.add hal e56 e7 hy6 hla ga he (hra' H7 e7) ⟨g1, g2, g3⟩ hc
        refine ⟨_, rfl, r, ws, 0, _, rfl, rfl, SqT.of h4, h40, rfl, _, rfl, ?_⟩
        refine ite2 (fun g => ?_) (fun g => ?_)
        · refine iteT ?_
          refine ⟨_, rfl, .inl ⟨rfl, _, SqL.of a6⟩, _, rfl, al, ys, _, rfl, rfl, a6, hlen, _, _, _, rfl, nxt H6 (Ext.refl _) (.inr ?_)⟩
          cases ha : a.1 with
          | none => rw [ha] at g; simp at g
          | some _ => rfl
        · refine ⟨_, rfl, al, rfl, ⟨_, SqL.of a6⟩, fun D hD => ?_⟩
          refine lc1_acc (walk_list (xs := ys)) (fun k zs Hz => DqAll Hz zs (((as.take k).filter fun a : Arm => a.1.isNone).map armD)) (fun _ _ _ _ e h => DqAll.up e h) .nil hD
            (fun k zs Hz h => ?_) (fun Hz ez => SqL.of (ez _ _ a6)) ?_ ?_
          · rw [h.len, List.length_map]
            refine Nat.lt_of_le_of_lt (Nat.le_trans (List.length_filter_le ..) ?_) (show 3 < sizeLine by decide)
            rw [List.length_take]
            omega
          · rintro k y Ha Hb zs hk ea hza ⟨rfl, hyk⟩ hp QY QN kY kN
            have hk2 : k < as.length := by omega
            obtain ⟨y', hy', dy'⟩ := DqAll_get (DqAll.up (del_ext.trans del_ext) hy6) k (armD as[k]) (by rw [List.getElem?_map, List.getElem?_eq_getElem hk2]; rfl)
            rw [hyk] at hy'
            cases hy'
            obtain ⟨t5, ws5, rfl, h5, _, h50, _⟩ := arm_inv (dy'.up ea)
            have gk := ga _ (List.getElem_mem hk2)
            refine ⟨rfl, ?_⟩
            refine ⟨_, rfl, t5, ws5, 0, _, rfl, rfl, SqT.of h5, h50, rfl, _, rfl, ?_⟩
            refine ite2 (fun g' => ?_) (fun g' => ?_)
            · have ee := (els_iff gk.1).mp (dec_word.mp g')
              refine ⟨_, rfl, kY _ _ (Ext.refl _) ?_⟩
              rw [filt_step hk2, ee, if_pos rfl, List.map_append]
              exact dq_app hp (.cons (dy'.up (ext_to ea hD)) .nil)
            · have ee : as[k].1.isNone = false := Bool.eq_false_iff.mpr fun z => g' (dec_word.mpr ((els_iff gk.1).mpr z))
              refine kN _ (Ext.refl _) ?_
              rw [filt_step hk2, ee, if_neg (by decide), List.append_nil]
              exact hp
          rintro H7 zs e7 hz hp
          rw [lys, List.take_length] at hp
          refine ⟨by show 0 ≤ sizeLine; decide, fun l7 hl7 => ?_⟩
          have e8 := Ext.new (o := .lst []) hl7
          have e78 := e7.trans e8
          refine ⟨.list ((as.filter fun a : Arm => a.1.isNone).map armD), .list [], sysUp hS ((e2.trans e56).trans e78), .lst (e8 _ _ hz) (DqAll.up e8 hp), .lst upd_same .nil, arms_shaped (fun a ha => ⟨(ga a (List.mem_filter.mp ha).1).1, by have := (ga a (List.mem_filter.mp ha).1).2.1; omega⟩), nil_shaped, _, rfl, ?_⟩
          rw [eqv_e]
          refine ite2 (fun g' => ?_) (fun g' => ?_)
          · have hz0 : (as.filter fun a : Arm => a.1.isNone).length = 0 := by
              have := List.isEmpty_iff.mp g'
              rw [← List.length_map (f := armD), this]
              rfl
            exact ⟨_, rfl, .inl ⟨rfl, _, SqL.of (e78 _ _ a6)⟩, _, rfl, al, ys, _, rfl, rfl, e78 _ _ a6, hlen, _, _, _, rfl, nxt _ e78 (.inl hz0)⟩
          · exact ⟨_, _, _, rfl, ys, as, e56.trans e78, e78 _ _ a6, DqAll.up (ext_del (ext_del e78)) hy6, by omega, ga, he⟩
      · rintro σ H5 ⟨s7, s8, s9, rfl, ys, as, e5, a5, hy, hla, ga, he⟩
        have f5 := e5 _ _ f2
        have hl3' : as.length ≤ 3 := by omega
        refine ⟨_, rfl, .inl ⟨rfl, _, SqL.of f5⟩, _, rfl, _, rfl, al, ys, rfl, .inl ⟨SqL.of a5, fun t ht => ⟨by show 2 ≤ sizeLine; decide, fun t2 ht2 => ?_⟩⟩⟩
        have x6 := Ext.new (o := .tup ys) ht
        have x7 := Ext.new (o := .tup [.str m, .ref t]) ht2
        have x67 := x6.trans x7
        have f7 := x67 _ _ f5
        have y6 : upd (upd H5 t (.tup ys)) t2 (.tup [.str m, .ref t]) t = some (.tup ys) := x7 _ _ upd_same
        have y7 : upd (upd H5 t (.tup ys)) t2 (.tup [.str m, .ref t]) t2 = some (.tup [.str m, .ref t]) := upd_same
        generalize upd (upd H5 t (.tup ys)) t2 _ = H7 at x67 f7 y6 y7 ⊢
        have nt : t ≠ fl := fun z => by rw [z, f5] at ht; cases ht
        have nt2 : t2 ≠ fl := fun z => by rw [z, x6 _ _ f5] at ht2; cases ht2
        have lxs : xs.length = ps.length := by rw [hx.len, List.length_map]
        have hyf : DqAll (del H7 fl) ys (as.map armD) := DqAll.up (ext_del x67) (DqAll.up (ext_del del_ext) hy)
        refine ⟨fl, xs, _, rfl, rfl, f7, by rw [lxs, hl]; exact Nat.lt_trans hi5 (by decide), ?_⟩
        refine ⟨_, _, _, _, _, _, xs ++ [.ref t2], ps ++ [(m, as)], rfl, Ext.mut (e2.trans (e5.trans x67)) hfl, upd_same, ?_, by rw [List.length_append, hl]; rfl, fun z hz => ?_⟩
        · rw [del_upd, List.map_append]
          exact dq_app (DqAll.up (ext_del (x1.trans (e5.trans x67))) hx) (.cons (.tup (by rw [del_ne nt2]; exact y7) (.cons (.str _) (.cons (.tup (by rw [del_ne nt]; exact y6) hyf) .nil))) .nil)
        · rcases List.mem_append.mp hz with h | h
          · exact gd z h
          · rw [List.mem_singleton.mp h]
            refine ⟨⟨hmd, fun a ha => ⟨(ga a ha).1, (ga a ha).2.1⟩, he, by show as.length ≤ 5; omega⟩, hl3', fun x hx => ?_⟩
            unfold lanesA at hx
            obtain ⟨a, ha, ea⟩ := List.mem_filterMap.mp hx
            cases hp : a.1 with
            | none => rw [hp] at ea; cases ea
            | some pr =>
              rw [hp] at ea
              cases ea
              exact (ga a ha).2.2 pr hp
    · rintro σ H5 ⟨s4, s5, s6, s7, s8, s9, xs, ps, rfl, e1, f1, hx, hl, gd⟩
      exact ⟨_, rfl, q fl xs ps _ hfl e1 f1 hx (by omega) gd⟩
end
end K28

set_option Elab.async false
set_option linter.all false
set_option maxRecDepth 100000
set_option maxHeartbeats 4000000
namespace K28
open PySem PySem.Spec PyProof.Rows L2 Ol RZ
open TL (tl)
def isStD (bd : Int) : PyData → Bool
  | .tuple [d0, d1] => isNumD d0 && (match d0 with | .int i => decide (i ≤ bd) | _ => false) && kB d1
  | _ => false
theorem isSt_not {bd : Int} {d : PyData} (h : kT d = false) : isStD bd d = false := by
  cases d with
  | tuple ds => cases h
  | _ => rfl
theorem isSt_len {bd : Int} {ds : List PyData} (h : ds.length ≠ 2) : isStD bd (.tuple ds) = false := by
  match ds, h with
  | [], _ => rfl
  | [_], _ => rfl
  | [_, _], h => exact absurd rfl h
  | _ :: _ :: _ :: _, _ => rfl
theorem num_int {d : PyData} (h : isNumD d = true) : ∃ i : Int, d = .int i ∧ 0 ≤ i := by
  cases d with
  | int i => exact ⟨i, rfl, of_decide_eq_true h⟩
  | _ => cases h
/-- a content of lanes with these bounds -/
def ctOk (bs : List Int) (ds : List PyData) : Bool := decide (ds.length = bs.length) && (List.range bs.length).all fun i => isStD (bs.getD i 0) (ds.getD i .none)
def isCtD (bs : List Int) : PyData → Bool
  | .tuple ds => ctOk bs ds
  | _ => false
theorem isCt_not {bs : List Int} {d : PyData} (h : kT d = false) : isCtD bs d = false := by
  cases d with
  | tuple ds => cases h
  | _ => rfl
section
variable {P : Program} {w : World} {K : PySem.W.Frag} {mg : Str → Option Value} {base : Heap} {C : Addr}
/-! ### is_state -/
def spIsSt : Sp := fun vs H Q _ => ∃ (v : V) (d : PyData) (bd : Int), vs = [v, .int bd] ∧ Dq H v d ∧ ∀ H', Ext H H' → Q (.bl (isStD bd d)) H'
abbrev s_isSt : Stmt := (topS 25)
theorem sc_isSt : FnScope ["thing", "bound"] ["thing", "bound"] (defScope s_isSt) := ⟨rfl, rfl, rfl, by decide +kernel, rfl, by decide +kernel, by decide +kernel⟩
theorem ok_isSt {f : Addr} {fd : FuncData} (F : Fun K "is_state" "is_state" s_isSt f fd) (T : BT mg)
    (C2 : Ca P w K mg base 2 "is_number" ["thing"] (spPred Any isNumD)) :
    FnOk P w K mg base CX0 3 f fd ["thing", "bound"] spIsSt := by
  refine F.ok sc_isSt (fun vs H Q E h => ?_) (fun cdv A outer s H vs Q E hr h => ?_)
  · obtain ⟨v, d, bd, rfl, _⟩ := h
    rfl
  · obtain ⟨v, d, bd, rfl, hd, q⟩ := h
    refine ⟨_, (pss_cons (ps_if (PW.pt (pw_or (pt_not (pt_val (pe_callB call_isi (by rfl) T.n_isinstance (by decide +kernel) (pa_cons (pv 0) (pa_cons (pe_bltn (v := .ty "tuple") (by rfl) T.n_tuple (by decide +kernel) rfl) pa_nil))))) (pw_or1 (pt_cmpR op_ne (pe_callB call_len_seq (by rfl) T.n_len (by decide +kernel) (pa_cons (pv 0) pa_nil)) pe_int (nomark _)))))
      (pss_one (ps_ret pe_bl)) pss_nil)
      (pss_one (ps_ret (pe_and (pe_ca C2 (hr.mono (by decide)) (by rfl) (pa_cons (pe_ix ix_tup (pv 0) pe_int (fun _ _ => rfl)) pa_nil)) (pe_and (pe_cmpR op_le (pe_ix ix_tup (pv 0) pe_int (fun _ _ => rfl)) (pv 1) (nomark _)) (pe_one (pe_callB call_isi (by rfl) T.n_isinstance (by decide +kernel) (pa_cons (pe_ix ix_tup (pv 0) pe_int (fun _ _ => rfl)) (pa_cons (pe_bltn (v := .ty "bool") (by rfl) T.n_bool (by decide +kernel) rfl) pa_nil))))))))), ?_⟩
    refine ⟨_, rfl, _, _, _, _, _, rfl, .ty "tuple", ty_of hd, ki_tuple d, _, rfl, ?_⟩
    cases hT : kT d with
    | false =>
      refine iteT ?_
      have q' := q H (Ext.refl H)
      rw [isSt_not hT] at q'
      exact q'
    | true =>
      refine iteF ?_
      obtain ⟨a, xs, ds, rfl, rfl, ha, t⟩ := dq_tup hd hT
      refine ⟨_, rfl, a, _, rfl, .inr (SqT.of ha), rfl, _, rfl, ?_⟩
      refine ite2 (fun g => ?_) (fun g => ?_)
      · have hl : ds.length ≠ 2 := fun z => by
          have h2 : xs.length = 2 := by rw [t.len]; exact z
          rw [h2] at g
          exact absurd g (by decide)
        have q' := q H (Ext.refl H)
        rw [isSt_len hl] at q'
        exact q'
      · have hl : xs.length = 2 := by
          have z : ¬ (!decide (V.int (xs.length : Int) = V.int 2)) = true := g
          have z2 : decide (V.int (xs.length : Int) = V.int 2) = true := by
            cases e : decide (V.int (xs.length : Int) = V.int 2) with
            | true => rfl
            | false => rw [e] at z; exact absurd rfl z
          have := of_decide_eq_true z2
          injection this with this
          omega
        obtain ⟨v0, v1, d0, d1, rfl, rfl, t0, t1⟩ := two_of t hl
        refine ⟨_, rfl, a, _, 0, _, rfl, rfl, SqT.of ha, atI_nat (by rfl), v0, d0, rfl, t0, trivial, fun H1 e1 => ⟨_, rfl, ?_⟩⟩
        have ha1 := e1 _ _ ha
        have q' := q H1 e1
        refine ite2 (fun g0 => ?_) (fun g0 => ?_)
        · obtain ⟨i, rfl, hi⟩ := num_int g0
          cases t0
          refine ⟨_, rfl, a, _, 0, _, rfl, rfl, SqT.of ha1, atI_nat (by rfl), _, rfl, _, _, rfl, rfl, _, rfl, ?_⟩
          have e0 : isStD bd (.tuple [.int i, d1]) = (decide (i ≤ bd) && kB d1) := by
            unfold isStD
            dsimp only
            rw [g0, Bool.true_and]
          rw [e0] at q'
          refine ite2 (fun g1 => ?_) (fun g1 => ?_)
          · rw [g1, Bool.true_and] at q'
            exact ⟨_, rfl, a, _, 1, _, rfl, rfl, SqT.of ha1, atI_nat (by rfl), _, _, _, _, _, rfl, .ty "bool", ty_of (t1.up e1), ki_bool d1, q'⟩
          · rw [Bool.eq_false_iff.mpr g1, Bool.false_and] at q'
            exact q'
        · have e0 : isStD bd (.tuple [d0, d1]) = false := by
            unfold isStD
            dsimp only
            rw [Bool.eq_false_iff.mpr g0, Bool.false_and, Bool.false_and]
          rw [e0] at q'
          exact q'
/-! ### is_content -/
def spIsCt (C : Addr) : Sp := fun vs H Q _ => ∃ (p : Addr) (ns : List Str) (bs : List Int) (v : V) (d : PyData), vs = [.ref p, v] ∧ LanesAt C H p ns bs ∧ Dq H v d ∧ ∀ H', Ext H H' → Q (.bl (isCtD bs d)) H'
theorem sc_isCt : FnScope ["self", "thing", "state", "bound"] ["self", "thing"] (defScope (cL 10)) := ⟨rfl, rfl, rfl, by decide +kernel, rfl, by decide +kernel, by decide +kernel⟩
theorem ok_isCt {f : Addr} {fd : FuncData} (F : Fun K "is_content" "Lanes.is_content" (cL 10) f fd) (T : BT mg) (L : LT K mg C)
    (C6 : Ca P w K mg base 3 "is_state" ["thing", "bound"] spIsSt) :
    FnOk P w K mg base CX0 4 f fd ["self", "thing"] (spIsCt C) := by
  refine F.ok sc_isCt (fun vs H Q E h => ?_) (fun cdv A outer s H vs Q E hr h => ?_)
  · obtain ⟨p, ns, bs, v, d, rfl, _⟩ := h
    rfl
  · obtain ⟨p, ns, bs, v, d, rfl, hL, hd, q⟩ := h
    refine ⟨_, (pss_cons (ps_if (PW.pt (pw_or (pt_not (pt_val (pe_callB call_isi (by rfl) T.n_isinstance (by decide +kernel) (pa_cons (pv 1) (pa_cons (pe_bltn (v := .ty "tuple") (by rfl) T.n_tuple (by decide +kernel) rfl) pa_nil))))) (pw_or1 (pt_cmpR op_ne (pe_callB call_len_seq (by rfl) T.n_len (by decide +kernel) (pa_cons (pv 1) pa_nil)) (pe_callB call_len_seq (by rfl) T.n_len (by decide +kernel) (pa_cons (pe_fld (pv 0) rfl) pa_nil)) (nomark _)))))
      (pss_one (ps_ret pe_bl))
      pss_nil)
    (pss_one (ps_ret (pe_callB (cr_all rfl) (by rfl) T.n_all (by decide +kernel) (pa_cons (pe_lc (own := [("state", 2), ("bound", 3)]) (g := gTup K 2 (gCons (gName 2) (gCons (gName 3) gNil))) (tt := tYes) rfl sc_isCt.nd (pi_zipA (by rfl) L.n_zip (pa_cons (pv 1) (pa_cons (pe_fld (pv 0) rfl) pa_nil))) (blkOk_by (N := ["self", "thing", "state", "bound"]) (sc := defScope (cL 10)) (by decide +kernel)) (fun _ _ _ _ _ => (pg_tup (by rfl) (pgs_cons (pg_name (i := 2) sc_isCt.nd rfl (.inl rfl)) (pgs_cons (pg_name (i := 3) sc_isCt.nd rfl (.inl rfl)) pgs_nil)))) (fun _ _ _ _ _ => pts_nil) (fun _ _ _ _ _ => (pe_ca C6 (hr.mono (by decide)) (by rfl) (pa_cons (pv 2) (pa_cons (pv 3) pa_nil))))) pa_nil))))), ?_⟩
    obtain ⟨dx, n, b, sp, h1, h2, h3, h4, hl, hnd, hl2, hns, hbs⟩ := id hL
    have bl : (bs.map V.int).length = bs.length := List.length_map ..
    refine ⟨_, rfl, _, _, _, _, _, rfl, .ty "tuple", ty_of hd, ki_tuple d, _, rfl, ?_⟩
    cases hT : kT d with
    | false =>
      refine iteT ?_
      have q' := q H (Ext.refl H)
      rw [isCt_not hT] at q'
      exact q'
    | true =>
      refine iteF ?_
      obtain ⟨a, xs, ds, rfl, rfl, ha, t⟩ := dq_tup hd hT
      refine ⟨_, rfl, a, _, rfl, .inr (SqT.of ha), _, rfl, p, C, dx, _, _, rfl, h1, L.cl, L.nB, lf_b _ _ _, b, _, rfl, .inr (SqT.of h3), rfl, _, rfl, ?_⟩
      by_cases hlen : xs.length = bs.length
      · have eq1 : xs.length = (bs.map V.int).length := by rw [bl, hlen]
        rw [eq1]
        refine ite2 (fun g => absurd g (by simp)) (fun _ => ?_)
        refine ⟨_, rfl, _, rfl, p, C, dx, _, _, rfl, h1, L.cl, L.nB, lf_b _ _ _, a, b, xs, _, rfl, .inr ⟨SqT.of ha, SqT.of h3, fun D hD => ?_⟩⟩
        refine lc1_acc (walk_zipT (n := bs.length) (by rw [eq1, bl, Nat.min_self])) (fun i ys _ => ys = ((List.range i).map fun k => isStD (bs.getD k 0) (ds.getD k .none)).map V.bl ∧ i ≤ 1000) (fun _ _ _ _ _ h => h) ⟨rfl, by decide⟩ hD (fun i ys _ h => by rw [h.1, List.length_map, List.length_map, List.length_range]; exact Nat.lt_of_le_of_lt h.2 (by decide)) (fun H' e => ⟨SqT.of (e _ _ ha), SqT.of (e _ _ h3)⟩) ?_ ?_
        · rintro i x Hi H' ys hi e hy ⟨T', y1, y2, rfl, hT', rfl, g1, g2⟩ ⟨hp, _⟩ QY QN kY kN
          have hi2 : i < ds.length := by rw [← t.len, hlen]; exact hi
          dsimp only at g1 g2
          rw [List.getElem?_map, List.getElem?_eq_getElem hi] at g2
          cases g2
          obtain ⟨u, hu, du⟩ := DqAll_get t i ds[i] (List.getElem?_eq_getElem hi2)
          rw [hu] at g1
          obtain rfl : u = y1 := Option.some.inj g1
          have eT := Ext.new (o := .tup [u, .int bs[i]]) hT'
          refine ⟨T', _, rfl, SqT.of upd_same, rfl, _, _, rfl, _, _, rfl, rfl, rfl, ?_⟩
          refine tyes ?_
          refine ⟨_, rfl, _, rfl, u, ds[i], bs[i], rfl, du.up (e.trans eT), fun H4 e4 => ?_⟩
          refine kY _ H4 (eT.trans e4) ⟨?_, by omega⟩
          rw [hp, List.range_succ, List.map_append, List.map_append]
          congr 1
          show [V.bl (isStD bs[i] ds[i])] = [V.bl (isStD (bs.getD i 0) (ds.getD i .none))]
          rw [List.getD_eq_getElem?_getD, List.getElem?_eq_getElem hi, List.getD_eq_getElem?_getD, List.getElem?_eq_getElem hi2]
          rfl
        · rintro H4 ys e4 hy ⟨hp, _⟩
          refine ⟨D, (List.range bs.length).map fun k => isStD (bs.getD k 0) (ds.getD k .none), rfl, SqL.of (by rw [hy, hp]), ?_⟩
          have ec : isCtD bs (.tuple ds) = ((List.range bs.length).map fun k => isStD (bs.getD k 0) (ds.getD k .none)).all id := by
            show ctOk bs ds = _
            unfold ctOk
            rw [decide_eq_true (by rw [← t.len, hlen]), Bool.true_and, List.all_map]
            rfl
          rw [← ec]
          exact q _ e4
      · have z : (!decide (V.int (xs.length : Int) = V.int ((bs.map V.int).length : Int))) = true := by
          rw [decide_eq_false]
          · rfl
          · intro y
            injection y with y
            rw [bl] at y
            omega
        refine ite2 (fun _ => ?_) (fun g => absurd z g)
        have q' := q H (Ext.refl H)
        have ec : isCtD bs (.tuple ds) = false := by
          show ctOk bs ds = _
          unfold ctOk
          rw [decide_eq_false (by rw [← t.len]; exact hlen), Bool.false_and]
        rw [ec] at q'
        exact q'
end
end K28

set_option Elab.async false
set_option linter.all false
set_option maxRecDepth 100000
set_option maxHeartbeats 4000000
namespace K28
open PySem PySem.Spec PyProof.Rows L2 Ol RZ
open TL (tl)
section
variable {P : Program} {w : World} {K : PySem.W.Frag} {mg : Str → Option Value} {base : Heap} {C : Addr}
theorem sl_any {K' : PySem.W.Frag} {H : Hp} {a : Addr} {xs : List V} {lo hi : Option Int} {Q : V → Hp → Prop} (h : H a = some (.tup xs))
    (k : ∀ p H', Ext H H' → H' p = some (.tup (cutV xs lo hi)) → Q (.ref p) H') : rSlA K' (.ref a) lo hi H Q := by
  refine ⟨a, xs, rfl, SqT.of h, fun z => k _ _ (Ext.refl _) ?_, fun _ p hp => k _ _ (Ext.new hp) upd_same⟩
  rw [h]
  unfold cutV
  rw [z.1, z.2]
  simp
/-! ### _law_odd -/
def spOdd : Sp := fun vs H Q _ => ∃ (a : Addr) (x : Str), vs = [.ref a, .str x] ∧ Bag H a ∧ isNameS x = true ∧ ∀ (v : V) (H' : Hp), Ext H H' → Th 1 v (nw H H') → Q v H'
abbrev s_odd : Stmt := (topS 50)
theorem sc_odd : FnScope ["_law_bag_here", "_law_name", "_law_far", "_law_plain"] ["_law_bag_here", "_law_name"] (defScope s_odd) := ⟨rfl, rfl, rfl, by decide +kernel, rfl, by decide +kernel, by decide +kernel⟩
theorem ok_odd {f : Addr} {fd : FuncData} (F : Fun K "_law_odd" "_law_odd" s_odd f fd) (T : BT mg) (CT : Ca P w K mg base 1 "_law_take" ["_law_bag_here", "_law_many"] spTake) :
    FnOk P w K mg base CX0 2 f fd ["_law_bag_here", "_law_name"] spOdd := by
  refine F.ok sc_odd (fun vs H Q E h => ?_) (fun cdv A outer s H vs Q E hr h => ?_)
  · obtain ⟨a, x, rfl, _⟩ := h
    rfl
  · obtain ⟨a, x, rfl, hb, hx, q⟩ := h
    refine ⟨_, (pss_cons (ps_set (i := 2) sc_odd.nd rfl (.inl rfl) (pe_callTy call_int_str (by rfl) T.n_int (by decide +kernel) (pa_cons (pe_op op_add_str pe_str (pe_op op_repS pe_str (pe_ca CT (hr.mono (by decide)) (by rfl) (pa_cons (pv 0) (pa_cons pe_int pa_nil))))) pa_nil)))
      (pss_cons (ps_set (i := 3) sc_odd.nd rfl (.inl rfl) (pe_lst (pa_cons pe_int (pa_cons pe_int (pa_cons (pe_un un_neg pe_int) (pa_cons (pv 2) (pa_cons (pe_un un_neg (pv 2)) (pa_cons pe_bl (pa_cons pe_bl (pa_cons pe_non (pa_cons pe_str (pa_cons pe_str (pa_cons (pv 1) (pa_cons (pe_op op_add_str (pv 1) pe_str) (pa_cons (pe_lst pa_nil) (pa_cons (pe_tup pa_nil) (pa_cons pe_dnewK (pa_cons (pe_lst (pa_cons pe_int pa_nil)) (pa_cons (pe_tup (pa_cons pe_int pa_nil)) (pa_cons (pe_tup (pa_cons (pv 1) pa_nil)) pa_nil))))))))))))))))))))
      (pss_one (ps_ret (pe_ix ix_list (pv 3) (pe_ca CT (hr.mono (by decide)) (by rfl) (pa_cons (pv 0) (pa_cons (pe_callB call_len_seq (by rfl) T.n_len (by decide +kernel) (pa_cons (pv 3) pa_nil)) pa_nil))) (fun _ _ => rfl)))))), ?_⟩
    refine ⟨_, rfl, a, 40, rfl, hb, by decide, by decide, fun r0 l0 u0 => ?_⟩
    obtain ⟨j, rfl⟩ : ∃ j : Nat, r0 = (j : Int) := ⟨r0.toNat, by omega⟩
    have hj : j < 40 := by omega
    have z24 : sizeLine = 16777216 := rfl
    have zl := far_len j hj
    refine ⟨_, j, rfl, rfl, by omega, rfl, by show (repS "0" j).length ≤ _; omega, _, _, rfl, rfl, by show 1 + (repS "0" j).length ≤ _; omega, _, _, rfl, far_int j hj, zl.1, ?_⟩
    have zp := pow_fit j hj
    have zq := pow_len j hj
    generalize (10 : Int) ^ j = far at zp zq ⊢
    obtain ⟨nx1, nx2, nx3⟩ := name_tl hx
    have xl : x.length ≤ 8 := by rw [tlen]; exact nx2
    have lz : (x ++ ("z" : Str)).length ≤ 9 := by
      rw [tlen, tl_app, List.length_append]
      show _ + 1 ≤ 9
      omega
    have gx : Gd 0 (.str x) := gd_str x (by omega) fun c hc => abc_low c (nx3 c hc)
    have gxz : Gd 0 (.str (x ++ ("z" : Str))) := gd_str _ (by omega) fun c hc => by
      rw [tl_app] at hc
      rcases List.mem_append.mp hc with z | z
      · exact abc_low c (nx3 c z)
      · have : ∀ c ∈ tl ("z" : Str), c < 128 := by decide +kernel
        exact this c z
    refine ⟨_, rfl, _, rfl, _, rfl, _, rfl, _, rfl, _, rfl, _, _, rfl, rfl, ?_, by show 0 ≤ sizeLine; decide, fun p1 h1 => ⟨by show 0 ≤ sizeLine; decide, fun p2 h2 => fun p3 h3 => ⟨by show 1 ≤ sizeLine; decide, fun p4 h4 => ⟨by show 1 ≤ sizeLine; decide, fun p5 h5 => ⟨_, rfl, by show 1 ≤ sizeLine; decide, fun p6 h6 => ⟨by show 18 ≤ sizeLine; decide, fun p7 h7 => ?_⟩⟩⟩⟩⟩⟩
    · have h1 : (x ++ ("z" : Str)).length = x.length + ("z" : Str).length := by rw [tlen, tl_app, List.length_append, ← tlen, ← tlen]
      rw [← h1]
      omega
    have e1 := Ext.new (o := .lst []) h1
    have e2 := Ext.new (o := .tup []) h2
    have e3 := Ext.new (o := .dK []) h3
    have e4 := Ext.new (o := .lst [.int 1]) h4
    have e5 := Ext.new (o := .tup [.int 0]) h5
    have e6 := Ext.new (o := .tup [.str x]) h6
    have a6 : upd (upd (upd (upd (upd (upd H p1 (.lst [])) p2 (.tup [])) p3 (.dK [])) p4 (.lst [.int 1])) p5 (.tup [.int 0])) p6 (.tup [.str x]) p6 = some (.tup [.str x]) := upd_same
    have a5 : upd (upd (upd (upd (upd (upd H p1 (.lst [])) p2 (.tup [])) p3 (.dK [])) p4 (.lst [.int 1])) p5 (.tup [.int 0])) p6 (.tup [.str x]) p5 = some (.tup [.int 0]) := e6 _ _ upd_same
    have a4 : upd (upd (upd (upd (upd (upd H p1 (.lst [])) p2 (.tup [])) p3 (.dK [])) p4 (.lst [.int 1])) p5 (.tup [.int 0])) p6 (.tup [.str x]) p4 = some (.lst [.int 1]) := e6 _ _ (e5 _ _ upd_same)
    have a3 : upd (upd (upd (upd (upd (upd H p1 (.lst [])) p2 (.tup [])) p3 (.dK [])) p4 (.lst [.int 1])) p5 (.tup [.int 0])) p6 (.tup [.str x]) p3 = some (.dK []) := e6 _ _ (e5 _ _ (e4 _ _ upd_same))
    have a2 : upd (upd (upd (upd (upd (upd H p1 (.lst [])) p2 (.tup [])) p3 (.dK [])) p4 (.lst [.int 1])) p5 (.tup [.int 0])) p6 (.tup [.str x]) p2 = some (.tup []) := e6 _ _ (e5 _ _ (e4 _ _ (e3 _ _ upd_same)))
    have a1 : upd (upd (upd (upd (upd (upd H p1 (.lst [])) p2 (.tup [])) p3 (.dK [])) p4 (.lst [.int 1])) p5 (.tup [.int 0])) p6 (.tup [.str x]) p1 = some (.lst []) := e6 _ _ (e5 _ _ (e4 _ _ (e3 _ _ (e2 _ _ upd_same))))
    have e16 := ((((e1.trans e2).trans e3).trans e4).trans e5).trans e6
    have n1 := h1
    have n2 := e1.free h2
    have n3 := (e1.trans e2).free h3
    have n4 := ((e1.trans e2).trans e3).free h4
    have n5 := (((e1.trans e2).trans e3).trans e4).free h5
    have n6 := ((((e1.trans e2).trans e3).trans e4).trans e5).free h6
    generalize upd (upd (upd (upd (upd (upd H p1 (.lst [])) p2 (.tup [])) p3 (.dK [])) p4 (.lst [.int 1])) p5 (.tup [.int 0])) p6 (.tup [.str x]) = H6 at *
    have b1 := (nw_none n1).trans a1
    have b2 := (nw_none n2).trans a2
    have b3 := (nw_none n3).trans a3
    have b4 := (nw_none n4).trans a4
    have b5 := (nw_none n5).trans a5
    have b6 := (nw_none n6).trans a6
    have hth : ∀ y ∈ ([.int 0, .int 1, .int (-1), .int far, .int (-far), .bl true, .bl false, .non, .str "", .str "a", .str x, .str (x ++ ("z" : Str)), .ref p1, .ref p2, .ref p3, .ref p4, .ref p5, .ref p6] : List V), Th 1 y (nw H H6) := by
      intro y hy
      simp only [List.mem_cons, List.not_mem_nil, or_false] at hy
      have i1 : Gd 0 (.int 1) := gd_int _ (by decide +kernel) (by decide +kernel)
      have i0 : Gd 0 (.int 0) := gd_int _ (by decide +kernel) (by decide +kernel)
      rcases hy with rfl | rfl | rfl | rfl | rfl | rfl | rfl | rfl | rfl | rfl | rfl | rfl | rfl | rfl | rfl | rfl | rfl | rfl
      · exact ⟨_, .int _, i0.up (by decide)⟩
      · exact ⟨_, .int _, i1.up (by decide)⟩
      · exact ⟨_, .int _, (gd_int _ (by decide +kernel) (by decide +kernel)).up (by decide)⟩
      · exact ⟨_, .int _, (gd_int _ zp.1 zq.1).up (by decide)⟩
      · exact ⟨_, .int _, (gd_int _ zp.2 zq.2).up (by decide)⟩
      · exact ⟨_, .bl _, (gd_bl _).up (by decide)⟩
      · exact ⟨_, .bl _, (gd_bl _).up (by decide)⟩
      · exact ⟨_, .non, gd_non.up (by decide)⟩
      · exact ⟨_, .str _, (gd_str _ (by decide +kernel) (by decide +kernel)).up (by decide)⟩
      · exact ⟨_, .str _, (gd_str _ (by decide +kernel) (by decide +kernel)).up (by decide)⟩
      · exact ⟨_, .str _, gx.up (by decide)⟩
      · exact ⟨_, .str _, gxz.up (by decide)⟩
      · exact ⟨_, .lst b1 .nil, gd_nil.up (by decide)⟩
      · exact ⟨_, .tup b2 .nil, gd_tnil.up (by decide)⟩
      · exact ⟨_, .dct b3 .nil, gd_dnil.up (by decide)⟩
      · exact th_list b4 (fun z hz => by cases List.mem_singleton.mp hz; exact ⟨_, .int _, i1⟩) (by decide)
      · exact th_tuple b5 (fun z hz => by cases List.mem_singleton.mp hz; exact ⟨_, .int _, i0⟩) (by decide)
      · exact th_tuple b6 (fun z hz => by cases List.mem_singleton.mp hz; exact ⟨_, .str _, gx⟩) (by simp)
    generalize hxs : ([.int 0, .int 1, .int (-1), .int far, .int (-far), .bl true, .bl false, .non, .str "", .str "a", .str x, .str (x ++ ("z" : Str)), .ref p1, .ref p2, .ref p3, .ref p4, .ref p5, .ref p6] : List V) = xs at hth ⊢
    have hxl : xs.length = 18 := by rw [← hxs]; rfl
    have e7 := Ext.new (o := .lst xs) h7
    have a7 : upd H6 p7 (.lst xs) p7 = some (.lst xs) := upd_same
    have e17 := e16.trans e7
    refine ⟨_, rfl, _, rfl, _, rfl, p7, _, rfl, .inl (SqL.of a7), a, _, rfl, hb.up e17, by rw [hxl]; decide, by rw [hxl]; decide, fun r r0 r1 => ?_⟩
    obtain ⟨k, rfl⟩ : ∃ k : Nat, r = (k : Int) := ⟨r.toNat, by omega⟩
    have hk : k < xs.length := by omega
    exact ⟨p7, _, _, xs[k], rfl, rfl, SqL.of a7, atI_nat (List.getElem?_eq_getElem hk), q _ _ e17 ((hth _ (List.getElem_mem hk)).up (nw_up e7) (Nat.le_refl _))⟩
end
end K28

set_option Elab.async false
set_option linter.all false
set_option maxRecDepth 100000
set_option maxHeartbeats 4000000
namespace Ol
open PySem PySem.Spec PyProof.Rows L2

/-! ### a dict comprehension whose keys are tuples -/
abbrev DC1 (kx vx t0 i0 : Expr) (f0 : List Expr) (scope : Scope) (pos : Pos) : Expr := .DictComp kx vx [⟨t0, i0, f0, 0⟩] scope pos
section
variable {X : Cx} {pins : List (Addr × Obj)}
/-- one entry is laid, its key a tuple -/
theorem dt_laid {σ : L2.St} {H : Hp} {s : Shared} {B : Value → Shared → Prop} {D b : Addr} {kvs : List (List Key × V)} {k : List Key} {v : V} {u r : Value} {Q : Unit → Shared → Prop} (hk : X.A.units < cLine) (I : Inv X pins σ H s)
    (at_D : H D = some (.dT kvs)) (few : kvs.length < sizeLine) (at_b : H b = some (.tup (k.map kV))) (ru : RelV (.ref b) u) (rv : RelV v r) (h : ∀ s', Inv X pins σ (upd H D (.dT (putK kvs k v))) s' → Q () s') :
    wpAny (model X.prog X.w) X.A (dictSet D u r) Q B s := by
  cases (show u = Value.ref b from ru)
  obtain ⟨lz, nsys, xs, rel, dd⟩ := dt_of I.hok at_D
  have lz2 : xs.length ≤ sizeLine := by rw [← Paired.length rel]; exact lz
  have lz3 : (putK kvs k v).length ≤ sizeLine := Nat.le_trans (length_putK kvs k v) few
  refine wpAny_dictSet_heap (hsz := lz2) (show (tupleKind (mixKind X.prog X.w)).room X.A from hk) (key_of I.hok at_b) dd ?_
  intro h2 dd2 same
  apply h
  obtain ⟨o2, es2, ep2, g1, g2, g3, g4, _, g5⟩ := dd2
  refine d_write I (by rw [at_D]; exact True.intro) same ⟨o2, g1⟩ ⟨lz3, nsys, _, (rel.put k at_b rv).keeps ?_, o2, es2, ep2, g1, g2, g3, g4, g5⟩
  intro c ys at_c
  rw [upd_ne (ne_of at_c at_D (fun z => nomatch z))]
  exact at_c
end
section
variable {X : Cx}
def tDcT (wi : TI) (g : TG) (tt : TT) (tk tv : TE) (vs : List Nat) : TE := fun σ H Q => wi σ H fun J Ha => ∀ D, Ha D = none → ∃ W : Nat → Nat → Hp → Prop, (∃ m, W 0 m (upd Ha D (.dT []))) ∧ ∀ i m Hb, W i m Hb →
  (J.stop i Hb ∧ Q (.ref D) Hb) ∨ (J.go i Hb ∧ ∃ On : Hp → Prop, (∀ Hc, On Hc → ∃ m', m' < m ∧ W (i + 1) m' Hc) ∧ ∀ x Hc, J.yld i Hb x Hc → g x (wipe σ vs) Hc fun σ2 H2 => wipe σ2 vs = wipe σ vs ∧ tt σ2 H2 fun b H3 =>
    if b = true then tk σ2 H3 fun y H4 => tv σ2 H4 fun z H5 => ∃ kvs k t, y = .ref t ∧ H5 t = some (.tup (k.map kV)) ∧ H5 D = some (.dT kvs) ∧ kvs.length < sizeLine ∧ On (upd H5 D (.dT (putK kvs k z))) else On H3)
theorem pe_dcT {kx vx t0 i0 : Expr} {f0 : List Expr} {scope : Scope} {own : List (Str × Nat)} {pos : Pos} {wi : TI} {g : TG} {tt : TT} {tk tv : TE} (calm : X.calm = true) (hu : X.A.units + 1 < cLine) (nd : X.N.Nodup) (src : PI X t0 i0 wi) (ok : BlkOk X.N X.env.scope scope own)
    (pg : ∀ (s : Shared) (H : Hp) (C : Addr) (cl : List (Str × Addr)) (fp : List Addr), PG (X.blk s H scope (compEnvC scope cl C X.env) fp) t0 g)
    (pt : ∀ (s : Shared) (H : Hp) (C : Addr) (cl : List (Str × Addr)) (fp : List Addr), PTs (X.blk s H scope (compEnvC scope cl C X.env) fp) f0 tt)
    (pk : ∀ (s : Shared) (H : Hp) (C : Addr) (cl : List (Str × Addr)) (fp : List Addr), PE (X.blk s H scope (compEnvC scope cl C X.env) fp) kx tk)
    (pw : ∀ (s : Shared) (H : Hp) (C : Addr) (cl : List (Str × Addr)) (fp : List Addr), PE (X.blk s H scope (compEnvC scope cl C X.env) fp) vx tv)
    (plain : ∀ x, foldedSetIterable i0 X.env x = pure x := by intro _; rfl) :
    PE X (DC1 kx vx t0 i0 f0 scope pos) (tDcT wi g tt tk tv (own.map (·.2))) := by
  constructor
  intro pins s σ H Q I h
  rw [arm_eval_DictComp]
  have cells : ∀ y ∈ scope.names, y.2 = .free → ∃ c, X.env.cells.lookup y.1 = some c := by
    intro y my free
    exact I.ok.has _ (ok.free y my free)
  apply wpAny_comprehension_free (use := none) rfl plain (closure_ok cells) ok.kind (fun y my free => by rw [ok.uniq y my, free])
  apply thn (src.run pins s σ H _ I h)
  intro seen sa at_src
  apply thn at_src
  rintro itv s2 ⟨it, fp, tn, J, H2, rfl, I2, T, place, foot, q⟩
  refine wpAny_newObj_type (newEnv_comp ?_)
  generalize atD : s2.heap.objs.size = D
  obtain ⟨W, ⟨m0, w0⟩, go_on⟩ := q D (I2.hok.fresh (Nat.le_of_eq atD))
  generalize made : ({ s2 with heap := s2.heap.push { cls := .type "dict", data := .dict #[] } } : Shared) = s3
  have heap3 : s3.heap = s2.heap.push { cls := .type "dict", data := .dict #[] } := by rw [← made]
  have stays : ∀ b o, s2.heap.get? b = some o → s3.heap.get? b = some o := fun b o z => by
    rw [heap3]
    exact Heap.get?_push_of_some _ z
  have I3 : Inv X pins σ (upd H2 D (.dT [])) s3 := by
    rw [← made]
    apply I2.laid (t' := s2.toks) (fun b o z => Heap.get?_push_of_some _ z) (Nat.le_of_eq atD)
    rw [← atD]
    exact dt_empty s2.heap I2.big
  have foot3 : ∀ b ∈ fp, FpOk X pins (upd H2 D (.dT [])) b ∧ b < s3.heap.objs.size := by
    intro b mb
    obtain ⟨o, got, _⟩ := T.obj _ _ place b mb
    have lt := Heap.lt_size got
    have ne : b ≠ D := atD ▸ Nat.ne_of_lt lt
    constructor
    · exact ⟨by rw [upd_ne ne]; exact (foot b mb).1, (foot b mb).2⟩
    · rw [heap3, Heap.size_push]
      exact Nat.lt_succ_of_lt lt
  have place3 : tn 0 s3.heap := T.keep _ _ _ place fun b _ o z => stays b o z
  have I4 := block_start I3 ok nd foot3
  generalize ecl : cellsFrom (s3.heap.objs.size + 1) scope.names (cloFrom X.env.cells scope.names []) = cl at I4
  have pg := pg s3 (upd H2 D (.dT [])) s3.heap.objs.size cl fp
  have pt := pt s3 (upd H2 D (.dT [])) s3.heap.objs.size cl fp
  have pk := pk s3 (upd H2 D (.dT [])) s3.heap.objs.size cl fp
  have pw := pw s3 (upd H2 D (.dT [])) s3.heap.objs.size cl fp
  show codeAny _ _ (.compStart (DC1 kx vx t0 i0 f0 scope pos) 0 (.ref it) (.ref D) (compEnvC scope cl s3.heap.objs.size X.env)) (compPost (model X.prog X.w) X.A X.xe none _ (.ref D) s3.heap.objs.size) { s3 with heap := pushCells (s3.heap.push { cls := .type "dict", data := .dict #[] }) scope.names }
  have blank : ∀ b ∈ fp, (upd H2 D (.dT [])) b = none := fun b mb => (foot3 b mb).1.1
  generalize ece : compEnvC scope cl s3.heap.objs.size X.env = ce at I4 pg pt pk pw ⊢
  have here : ce.locals = s3.heap.objs.size := by subst ece; rfl
  generalize e3 : upd H2 D (.dT []) = H3 at I3 I4 pg pt pk pw w0 blank foot3
  generalize e4 : ({ s3 with heap := pushCells (s3.heap.push { cls := .type "dict", data := .dict #[] }) scope.names } : Shared) = s4 at I4 ⊢
  have place4 : tn 0 s4.heap := T.keep _ _ _ place3 fun b _ o z => by
    rw [← e4]
    exact pushCells_keeps _ _ _ _ (Heap.get?_push_of_some _ z)
  have foots : ∀ {σ' : L2.St} {H' : Hp} {s' : Shared}, Inv (X.blk s3 H3 scope ce fp) [] σ' H' s' → (∀ b ∈ fp, H' b = none) → ∀ b ∈ fp, FpOk (X.blk s3 H3 scope ce fp) [] H' b := by
    intro σ' H' s' I' no b mb
    have ex := I'.ok.exf b mb
    refine ⟨no b mb, ex.1, I'.ok.exfs b mb, .inl mb, fun x c z => ex.2 x c z, ?_⟩
    intro p mp
    have mp' : p ∈ ([] : List (Addr × Obj)) ++ [] := mp
    simp at mp'
  have whole : codeAny (model X.prog X.w) X.A (.compLoop (DC1 kx vx t0 i0 f0 scope pos) 0 (.ref it) (.ref D) ce) (compPost (model X.prog X.w) X.A X.xe none (EP X pins σ Q) (.ref D) s3.heap.objs.size) s4 := by
    refine compLoop_anyD (fun n s' => ∃ i H', Inv (X.blk s3 H3 scope ce fp) [] (wipe σ (own.map (·.2))) H' s' ∧ tn i s'.heap ∧ (∀ b ∈ fp, H' b = none) ∧ W i n H') ?_ m0 ⟨0, H3, I4, place4, blank, w0⟩
    rintro n s5 ⟨i, H5, I5, p5, b5, w5⟩
    rcases go_on i n H5 w5 with ⟨stop, fin⟩ | ⟨go, On, next, step⟩
    · apply thnF (T.done (X.blk s3 H3 scope ce fp) rfl rfl rfl calm i [] s5 _ H5 (fun _ _ => False) I5 (foots I5 b5) p5 stop)
      rintro got s6 ⟨rfl, I6⟩
      have I7 : Inv X pins σ H5 s6 := I3.call' (ch := fp) I6.os I6.base I6.hok I6.bare fun b mb =>
        let z := (foot3 b mb).1.2
        ⟨z.2.2.1, z.1, z.2.2.2.1, z.2.2.2.2⟩
      have none_here : H5 s3.heap.objs.size = none := by
        have z : H5 ce.locals = none := I6.free
        exact here ▸ z
      obtain ⟨ns, at_ns, _⟩ := I6.loc
      have at_ns : s6.heap.Ns ce.locals ns := at_ns
      rw [here] at at_ns
      obtain ⟨z0, z1, _, z3, z4, z5⟩ := I3.fpOk (Nat.le_refl _) none_here
      refine ⟨ns, at_ns, fun h2 same => ?_⟩
      exact ⟨.ref D, H5, I7.turned (t' := s6.toks) (fun b o ne z => (same.2 b ne).trans z) z0 z1 z3 z4 z5, rfl, fin⟩
    · apply thnF (T.item (X.blk s3 H3 scope ce fp) rfl rfl rfl calm i [] s5 _ H5 (fun _ _ => False) I5 (foots I5 b5) p5 go)
      rintro got s6 ⟨u, rfl, at_u⟩
      apply thnF at_u
      rintro _ s7 ⟨x, H7, I7, rx, y7, p7, b7⟩
      apply thnF (pg.run _ s7 _ H7 x u _ (I7.pinned (foots I7 b7) (T.obj _ _ p7)) rx (step x H7 y7))
      rintro _ s8 ⟨σ8, H8, I8, hw, q8⟩
      apply thnF (pt.run _ s8 σ8 H8 _ I8 q8)
      rintro b s9 ⟨H9, I9, q9⟩
      have back : ∀ {s' : Shared} {H' : Hp}, Inv (X.blk s3 H3 scope ce fp) ([] ++ pinsAt fp s7.heap) σ8 H' s' → On H' → ∃ m, m < n ∧ ∃ i H', Inv (X.blk s3 H3 scope ce fp) [] (wipe σ (own.map (·.2))) H' s' ∧ tn i s'.heap ∧ (∀ b ∈ fp, H' b = none) ∧ W i m H' := by
        intro s' H' I' on
        obtain ⟨m, lt, w'⟩ := next H' on
        have pinned : ∀ c ∈ fp, ∀ o, s7.heap.get? c = some o → s'.heap.get? c = some o ∧ H' c = none := by
          intro c mc o got
          have z := I'.pin (c, o) (List.mem_append_right _ (List.mem_append_right _ (mem_pinsAt mc got)))
          exact ⟨z.1, z.2.1⟩
        refine ⟨m, lt, i + 1, H', (I'.unpinned (pins := [])).weak (hw ▸ wipe_length σ8 _) ?_, T.keep _ _ _ p7 (fun c mc o got => (pinned c mc o got).1), ?_, w'⟩
        · intro j v z
          rw [← hw] at z
          exact (wipe_some z).1
        · intro c mc
          obtain ⟨o, got, _⟩ := T.obj _ _ p7 c mc
          exact (pinned c mc o got).2
      by_cases yes : b = true
      case neg =>
        rw [if_neg yes] at q9 ⊢
        exact back I9 q9
      rw [if_pos yes] at q9 ⊢
      apply thnF (pk.run _ s9 σ8 H9 _ I9 q9)
      rintro uk s17 ⟨key, H17, I17, rk, q17⟩
      apply thnF (pw.run _ s17 σ8 H17 _ I17 q17)
      rintro uv s18 ⟨val, H18, I18, rv, kvs, kk, t, rfl, at_t, hD18, few, on1⟩
      have rk' : RelV (.ref t) uk := rk
      exact dt_laid (X := X.blk s3 H3 scope ce fp) (Nat.lt_of_succ_lt hu) I18 hD18 few at_t rk' rv fun s19 I19 => back I19 on1
  exact codeAny_compStart_dict whole (T.self X.A 0 _ _ _ place4 whole)
end
/-- over any walk -/
theorem dcT_it {J : It} {n : Nat} {G : Hp → Prop} {Y : Nat → Hp → V → Hp → Prop} (w : Walk J n G Y) {g : TG} {tt : TT} {tk tv : TE} {vs : List Nat} {σ : L2.St} {H1 : Hp} {D : Addr} {Qd : Hp → Prop} (Pv : Nat → Hp → Prop)
    (h0 : Pv 0 (upd H1 D (.dT []))) (hG : ∀ i H, i ≤ n → Pv i H → G H)
    (hs : ∀ i x H H', i < n → Pv i H → Y i H x H' → g x (wipe σ vs) H' fun σ2 H2 => wipe σ2 vs = wipe σ vs ∧ tt σ2 H2 fun b H3 =>
      if b = true then tk σ2 H3 fun y H4 => tv σ2 H4 fun z H5 => ∃ kvs k t, y = .ref t ∧ H5 t = some (.tup (k.map kV)) ∧ H5 D = some (.dT kvs) ∧ kvs.length < sizeLine ∧ Pv (i + 1) (upd H5 D (.dT (putK kvs k z))) else Pv (i + 1) H3) (hd : ∀ H, Pv n H → Qd H) :
    ∃ W : Nat → Nat → Hp → Prop, (∃ m, W 0 m (upd H1 D (.dT []))) ∧ ∀ i m H, W i m H →
      (J.stop i H ∧ Qd H) ∨ (J.go i H ∧ ∃ Nx : Hp → Prop, (∀ H', Nx H' → ∃ m', m' < m ∧ W (i + 1) m' H') ∧ ∀ x H', J.yld i H x H' → g x (wipe σ vs) H' fun σ2 H2 => wipe σ2 vs = wipe σ vs ∧ tt σ2 H2 fun b H3 =>
        if b = true then tk σ2 H3 fun y H4 => tv σ2 H4 fun z H5 => ∃ kvs k t, y = .ref t ∧ H5 t = some (.tup (k.map kV)) ∧ H5 D = some (.dT kvs) ∧ kvs.length < sizeLine ∧ Nx (upd H5 D (.dT (putK kvs k z))) else Nx H3) := by
  refine ⟨fun i m H => m = n - i ∧ i ≤ n ∧ Pv i H, ⟨n, by simp, Nat.zero_le _, h0⟩, ?_⟩
  rintro i m H ⟨rfl, hi, p⟩
  have q := hG i H hi p
  by_cases hlt : i < n
  · exact .inr ⟨w.goes i H hlt q, Pv (i + 1), fun H' p' => ⟨n - (i + 1), by omega, rfl, hlt, p'⟩, fun x H' y => hs i x H H' hlt p (w.yields i H x H' hlt q y)⟩
  · have e : i = n := by omega
    subst e
    exact .inl ⟨w.stops H q, hd H p⟩
end Ol

set_option Elab.async false
set_option linter.all false
set_option maxRecDepth 100000
set_option maxHeartbeats 4000000
namespace Ol
open PySem PySem.Spec PyProof.Rows L2

/-! ### list(d.values()) -/
def viewV (p d : Addr) : HO := .ext fun h => h.get? p = some ({ cls := .type "dict_values", data := .fields #[.ref d] } : Obj)
def rVwV : V → List V → Hp → VK → Prop := fun x xs H Q => ∃ (d : Addr) (kvs : List (Key × V)), x = .ref d ∧ xs = [] ∧ H d = some (.dK kvs) ∧ ∀ p, H p = none → Q (.ref p) (upd H p (viewV p d))
theorem mt_vwV {X : Cx} : MtR X "dict.values" rVwV := by
  intro pins s σ H x xs v us Q I rx rs h
  obtain ⟨d, kvs, rfl, rfl, hd, q⟩ := h
  cases rs
  cases (show v = Value.ref d from rx)
  obtain ⟨z, hs, vs, rel, dd⟩ := dk_of I.hok hd
  refine call_meetsIn PySem.F.slot_dict_values dd.typeIs PySem.F.entry_dict_values (PySem.F.args_dict_values_1 _) (meets_dict_values (mixKind X.prog X.w) d hs) ⟨⟨vs, dd⟩, ?_⟩
  have got : (s.heap.push ({ cls := .type "dict_values", data := .fields #[.ref d] } : Obj)).get? s.heap.objs.size = some { cls := .type "dict_values", data := .fields #[.ref d] } := Heap.get?_push_size _ rfl
  exact ⟨.ref s.heap.objs.size, _, I.laid (t' := s.toks) (fun b o y => Heap.get?_push_of_some _ y) (Nat.le_refl _) (show ObjOk X.prog X.w _ _ _ (viewV s.heap.objs.size d) from ⟨got, ⟨_, got⟩, fun h1 h2 y k => k _ y⟩), rfl, q _ (I.hok.fresh (Nat.le_refl _))⟩
theorem kv_vals : ∀ {kvs : List (Key × V)} {vs : List (Key × Value)}, L2.KV kvs vs → Vals (kvs.map (·.2)) (vs.map (·.2))
  | _, _, .nil => .nil
  | _, _, .cons h t => .cons h.2 (kv_vals t)
def rLstV : List V → Hp → VK → Prop := fun xs H Q => ∃ (p d : Addr) (kvs : List (Key × V)), xs = [.ref p] ∧ H p = some (viewV p d) ∧ H d = some (.dK kvs) ∧ ∀ l, H l = none → Q (.ref l) (upd H l (.lst (kvs.map (·.2))))
theorem call_lstV {X : Cx} (calm : X.calm = true) : CallR X (.type "list") rLstV := by
  intro pins s σ H xs us Q I r h
  obtain ⟨p, d, kvs, rfl, hp, hd, q⟩ := h
  obtain ⟨u, rfl, rx⟩ := vals1 r
  cases (show u = Value.ref p from rx)
  obtain ⟨z, hs, vs, rel, o0, es, ep, d1, d2⟩ := dk_of I.hok hd
  have hv := (show ObjOk X.prog X.w H s.heap p (viewV p d) from I.hok p _ hp).1
  have hl : vs.length ≤ sizeLine := by rw [← Paired.length rel]; exact z
  refine PySem.W.kdl_call (PySem.W.kdl_values (knd := mixKind X.prog X.w) (kvs := vs) (ep := ep)) (I.ok.hd calm) ⟨⟨_, hv, rfl, rfl⟩, ⟨o0, es, d1, d2⟩⟩ hl ?_
  intro h' tk acc c keep at_ its
  have e1 : acc.toList = vs.map (·.2) := PySem.W.kdl_vals_eq acc.toList (by rw [Array.length_toList]; exact its.1) fun j v hj => its.2 j v (by rw [← Array.getElem?_toList]; exact hj)
  refine ⟨.ref s.heap.objs.size, _, I.laid (t' := tk) keep (Nat.le_refl _) (show ObjOk X.prog X.w _ h' _ (.lst (kvs.map (·.2))) from ⟨by rw [List.length_map]; exact z, acc.toList, c, ?_, ?_⟩), rfl, q _ (I.hok.fresh (Nat.le_refl _))⟩
  · rw [e1]
    exact kv_vals rel
  · rw [Array.toArray_toList]
    exact at_
end Ol

set_option Elab.async false
set_option linter.all false
set_option maxRecDepth 100000
set_option maxHeartbeats 4000000
namespace K28
open PySem PySem.Spec PyProof.Rows L2 Ol RZ
open TL (tl)
/-- what a class inherits -/
structure IsC (K : PySem.W.Frag) (C : Addr) : Prop where
  cls : PySem.W.findIn K (.ref C) "__class__" = some (some (.builtin "object.__class__"))
  get : PySem.W.specialIn K (.builtin "object.__class__") "__get__" = some (some (.builtin "getset_descriptor.__get__"))
  set : PySem.W.takesIn K (.builtin "object.__class__") = some true
  mro : PySem.W.mroIn K C (.type "object") = some true
  kC : PySem.W.kitOne K (.ref C) (.ref C) = some true
theorem IsC.nC {K : PySem.W.Frag} {C : Addr} : PySem.W.notFirst K C (.ref C) = true := by simp [PySem.W.notFirst]
theorem IsC.ty {K : PySem.W.Frag} {C : Addr} {H : Hp} {p dx : Addr} {fs : List (Str × V)} (I : IsC K C) (c : Cls K C) (h : H p = some (.ins C dx fs)) : TyX K H (.ref p) (.ref C) := .base (.ins h c I.cls I.get I.set I.mro)
section
variable {P : Program} {w : World} {K : PySem.W.Frag} {mg : Str → Option Value} {base : Heap} {C CP : Addr}
/-! ### Program.size -/
def spSz (C : Addr) : Sp := fun vs H Q _ => ∃ (p : Addr) (ps : List Place), vs = [.ref p] ∧ ProgAt C H p ps ∧ Q (.int (ps.length : Int)) H
theorem sc_sz : FnScope ["self"] ["self"] (defScope (cP 3)) := ⟨rfl, rfl, rfl, by decide +kernel, rfl, by decide +kernel, by decide +kernel⟩
theorem ok_sz {f : Addr} {fd : FuncData} (F : Fun K "size" "Program.size" (cP 3) f fd) (T : BT mg) (L : PT K mg C) :
    FnOk P w K mg base CX0 1 f fd ["self"] (spSz C) := by
  refine F.ok sc_sz (fun vs H Q E h => ?_) (fun cdv A outer s H vs Q E hr h => ?_)
  · obtain ⟨p, ps, rfl, _⟩ := h
    rfl
  · obtain ⟨p, ps, rfl, hP, q⟩ := h
    refine ⟨_, (pss_one (ps_ret (pe_callB call_len_seq (by rfl) T.n_len (by decide +kernel) (pa_cons (pe_fld (pv 0) rfl) pa_nil)))), ?_⟩
    obtain ⟨dx, t, u, xs, us, h1, h2, h3, _⟩ := id hP
    have lx : xs.length = ps.length := by rw [h3.len, List.length_map]
    refine ⟨_, rfl, p, C, dx, _, _, rfl, h1, L.cl, L.nP, pf_p _ _, t, _, rfl, .inr (SqT.of h2), ?_⟩
    rw [lx]
    exact q
/-- a property and its promise -/
structure Pr (P : Program) (w : World) (K : PySem.W.Frag) (mg : Str → Option Value) (base : Heap) (C : Addr) (k : Nat) (m : Str) (sp : Sp) : Prop where
  has : ∃ (x f : Addr) (fd : FuncData), FnOk P w K mg base CX0 k f fd ["self"] sp ∧ PropOf K C m x f ∧ Binds K fd ["self"] []
/-! ### kinds of clients -/
abbrev Knd := Str × List Place
def kdA (ks : List Knd) (at_ : Str → Addr) : List (Key × V) := ks.map fun k => (.inr k.1, .ref (at_ k.1))
theorem kdA_len (ks : List Knd) (at_ : Str → Addr) : (kdA ks at_).length = ks.length := List.length_map ..
theorem kdA_keys (ks : List Knd) (at_ : Str → Addr) : (kdA ks at_).map (·.1) = (ks.map (·.1)).map Sum.inr := by
  unfold kdA
  rw [List.map_map, List.map_map]
  rfl
theorem kdA_val {ks : List Knd} {at_ : Str → Addr} {x : Str} : valV (kdA ks at_) (.inr x) = if x ∈ ks.map (·.1) then some (.ref (at_ x)) else none := by
  induction ks with
  | nil => rfl
  | cons k ks ih =>
    unfold kdA
    rw [List.map_cons, List.map_cons]
    by_cases c : k.1 = x
    · rw [valV_pos (by rw [c]), if_pos (by rw [c]; exact List.mem_cons_self), c]
    · rw [valV_neg (fun z => c (Sum.inr.inj z))]
      have ih' : valV (ks.map fun k => ((.inr k.1, .ref (at_ k.1)) : Key × V)) (.inr x) = _ := ih
      rw [ih']
      by_cases m : x ∈ ks.map (·.1)
      · rw [if_pos m, if_pos (List.mem_cons_of_mem _ m)]
      · rw [if_neg m, if_neg]
        intro z
        rcases List.mem_cons.mp z with z | z
        · exact c z.symm
        · exact m z
theorem kdA_at {ks : List Knd} {at_ : Str → Addr} {i : Nat} (h : i < ks.length) : (kdA ks at_)[i]? = some (.inr ks[i].1, .ref (at_ ks[i].1)) := by
  unfold kdA
  rw [List.getElem?_map, List.getElem?_eq_getElem h]
  rfl
def spKinds (CP : Addr) : Sp := fun vs H Q _ => ∃ (a : Addr) (ks : List Knd) (at_ : Str → Addr), vs = [.ref a] ∧ H a = some (.dK (kdA ks at_)) ∧ ks.length ≤ 3 ∧ (∀ k ∈ ks, isNameS k.1 = true ∧ ProgAt CP H (at_ k.1) k.2) ∧
  ∀ H', Ext H H' → Q (.bl true) H'
abbrev s_kinds : Stmt := (topS 34)
abbrev nKds : List Str := ["thing", "kind", "program"]
theorem sc_kinds : FnScope nKds ["thing"] (defScope s_kinds) := ⟨rfl, rfl, rfl, by decide +kernel, rfl, by decide +kernel, by decide +kernel⟩
theorem ok_kinds {f : Addr} {fd : FuncData} (F : Fun K "is_kinds" "is_kinds" s_kinds f fd) (T : BT mg) (LP : PT K mg CP) (IP : IsC K CP)
    (C3 : Ca P w K mg base 1 "is_name" ["thing"] (spPred Ok1 isNameD)) :
    FnOk P w K mg base CX0 2 f fd ["thing"] (spKinds CP) := by
  refine F.ok sc_kinds (fun vs H Q E h => ?_) (fun cdv A outer s H vs Q E hr h => ?_)
  · obtain ⟨a, ks, at_, rfl, _⟩ := h
    rfl
  · obtain ⟨a, ks, at_, rfl, ha, hl, hks, q⟩ := h
    refine ⟨_, (pss_cons (ps_if (pt_not (pt_val (pe_callB call_isi (by rfl) T.n_isinstance (by decide +kernel) (pa_cons (pv 0) (pa_cons (pe_bltn (v := .ty "dict") (by rfl) T.n_dict (by decide +kernel) rfl) pa_nil)))))
      (pss_one (ps_ret pe_bl))
      pss_nil)
    (pss_one (ps_ret (pe_callB (cr_all rfl) (by rfl) T.n_all (by decide +kernel) (pa_cons (pe_lock (pe_lc (own := [("kind", 1), ("program", 2)]) (g := gTup K 2 (gCons (gName 1) (gCons (gName 2) gNil))) (tt := tYes) rfl sc_kinds.nd (pi_items (pv 0)) (blkOk_by (N := nKds) (sc := defScope s_kinds) (by decide +kernel)) (fun _ _ _ _ _ => (pg_tup (by rfl) (pgs_cons (pg_name (i := 1) sc_kinds.nd rfl (.inl rfl)) (pgs_cons (pg_name (i := 2) sc_kinds.nd rfl (.inl rfl)) pgs_nil)))) (fun _ _ _ _ _ => pts_nil) (te := tAndV (tCall (spPred Ok1 isNameD) [] E0 (tCons (tVar 1) tNil)) (tCB (rIsi K) (tCons (tVar 2) (tCons (tC (.ref CP)) tNil))))
      (fun _ _ _ _ _ => (pe_and (pe_ca C3 (hr.mono (by decide)) (by rfl) (pa_cons (pv 1) pa_nil)) (pe_one (pe_callB (r := rIsi K) (id := "isinstance") call_isi (by rfl) T.n_isinstance (by decide +kernel) (pa_cons (pv 2) (pa_cons (pe_glob (v := .ref CP) rfl LP.gC rfl) pa_nil)))))))) pa_nil))))), ?_⟩
    refine ⟨_, rfl, _, _, _, _, _, rfl, .ty "dict", .base (.dK ha), ki_dict (.dict []), _, rfl, ?_⟩
    refine iteF ?_
    refine ⟨a, _, ha, trivial, fun od => ⟨_, rfl, a, od, _, rfl, upd_same, fun D hD => ?_⟩⟩
    have nD : D ≠ a := fun z => by rw [z, upd_same] at hD; cases hD
    refine lc_acc walk_items (fun i xs _ => xs = List.replicate i (V.bl true)) (fun _ _ _ _ _ h => h) rfl hD (fun i xs _ h => by rw [h, List.length_replicate]; exact Nat.le_refl _) (by rw [kdA_len]; exact Nat.le_trans hl (by decide)) (fun H' e => e _ _ upd_same) ?_ ?_
    · rintro i x H1 H2 xs hi e1 ⟨T', y1, y2, rfl, hT, rfl, g1, g2⟩ hp QY QN kY kN
      rw [kdA_len] at hi
      have k1 : y1 = .str ks[i].1 := by
        have z := g1
        dsimp only at z
        rw [kdA_at hi] at z
        exact (Option.some.inj z).symm
      have k2 : y2 = .ref (at_ ks[i].1) := by
        have z := g2
        dsimp only at z
        rw [kdA_at hi] at z
        exact (Option.some.inj z).symm
      subst k1
      subst k2
      obtain ⟨b1, b2⟩ := hks _ (List.getElem_mem hi)
      obtain ⟨dx, t, u, zs, us, h1, _⟩ := b2
      have na : at_ ks[i].1 ≠ a := fun z => by rw [z, ha] at h1; cases h1
      have h1' := e1 _ _ ((upd_ne na).trans h1)
      have eT := Ext.new (o := .tup [.str ks[i].1, .ref (at_ ks[i].1)]) hT
      refine ⟨T', _, rfl, SqT.of upd_same, rfl, _, _, rfl, _, _, rfl, rfl, rfl, ?_⟩
      refine tyes ?_
      refine ⟨_, rfl, _, _, rfl, .str _, (fun x hx => by cases hx; exact name_tx b1), fun H3 e3 => ⟨_, rfl, ?_⟩⟩
      rw [if_pos (show isNameD (.str ks[i].1) = true from b1)]
      refine ⟨_, rfl, _, _, _, _, _, rfl, .own CP, IP.ty LP.cl ((eT.trans e3) _ _ h1'), IP.kC, ?_⟩
      refine kY _ H3 (eT.trans e3) fun Hz _ hh => ?_
      rw [hh, List.replicate_succ']
    · rintro H1 xs e1 hx hp
      subst hp
      refine ⟨e1 _ _ upd_same, D, List.replicate (kdA ks at_).length true, rfl, SqL.of ?_, ?_⟩
      · rw [upd_ne nD, hx, List.map_replicate]
      · have e2 : Ext H (upd H1 a (.dK (kdA ks at_))) := fun b o z => by
          by_cases c : b = a
          · rw [c] at z ⊢
            rw [upd_same, ← ha, z]
          · rw [upd_ne c]
            exact e1 _ _ (by rw [upd_ne c]; exact z)
        have ea : (List.replicate (kdA ks at_).length true).all id = true := by simp
        rw [ea]
        exact q _ e2
/-! ### counts -/
def isCsD (m : Nat) : PyData → Bool
  | .tuple ds => decide (ds.length = m) && ds.all isNumD
  | _ => false
def spCounts : Sp := fun vs H Q _ => ∃ (v : V) (d : PyData) (m : Nat), vs = [v, .int (m : Int)] ∧ Dq H v d ∧ m ≤ 20 ∧ ∀ H', Ext H H' → Q (.bl (isCsD m d)) H'
abbrev s_counts : Stmt := (topS 35)
abbrev nCts : List Str := ["thing", "many", "count"]
theorem sc_counts : FnScope nCts ["thing", "many"] (defScope s_counts) := ⟨rfl, rfl, rfl, by decide +kernel, rfl, by decide +kernel, by decide +kernel⟩
theorem isCs_not {m : Nat} {d : PyData} (h : kT d = false) : isCsD m d = false := by
  cases d with
  | tuple ds => cases h
  | _ => rfl
theorem ok_counts {f : Addr} {fd : FuncData} (F : Fun K "is_counts" "is_counts" s_counts f fd) (T : BT mg)
    (C2 : Ca P w K mg base 2 "is_number" ["thing"] (spPred Any isNumD)) :
    FnOk P w K mg base CX0 3 f fd ["thing", "many"] spCounts := by
  refine F.ok sc_counts (fun vs H Q E h => ?_) (fun cdv A outer s H vs Q E hr h => ?_)
  · obtain ⟨v, d, m, rfl, _⟩ := h
    rfl
  · obtain ⟨v, d, m, rfl, hd, hm, q⟩ := h
    refine ⟨_, (pss_one (ps_ret (pe_and (pe_callB call_isi (by rfl) T.n_isinstance (by decide +kernel) (pa_cons (pv 0) (pa_cons (pe_bltn (v := .ty "tuple") (by rfl) T.n_tuple (by decide +kernel) rfl) pa_nil))) (pe_and (pe_cmpR op_eq (pe_callB call_len_seq (by rfl) T.n_len (by decide +kernel) (pa_cons (pv 0) pa_nil)) (pv 1) (nomark _))
      (pe_one (pe_callB (cr_all rfl) (by rfl) T.n_all (by decide +kernel) (pa_cons (pe_lc (own := [("count", 2)]) (g := gName 2) (tt := tYes) rfl sc_counts.nd (pi_tup (pv 0)) (blkOk_by (N := nCts) (sc := defScope s_counts) (by decide +kernel)) (fun _ _ _ _ _ => pg_name (i := 2) sc_counts.nd rfl (.inl rfl)) (fun _ _ _ _ _ => pts_nil) (fun _ _ _ _ _ => pe_ca C2 (hr.mono (by decide)) (by rfl) (pa_cons (pv 2) pa_nil))) pa_nil))))))), ?_⟩
    refine ⟨_, rfl, _, _, _, _, _, rfl, .ty "tuple", ty_of hd, ki_tuple d, _, rfl, ?_⟩
    cases hT : kT d with
    | false =>
      refine iteF ?_
      have q' := q H (Ext.refl H)
      rw [isCs_not hT] at q'
      exact q'
    | true =>
      refine iteT ?_
      obtain ⟨a, xs, ds, rfl, rfl, ha, t⟩ := dq_tup hd hT
      have lx := t.len
      refine ⟨_, rfl, a, _, rfl, .inr (SqT.of ha), _, rfl, rfl, _, rfl, ?_⟩
      by_cases hlen : ds.length = m
      · have z : decide (V.int (xs.length : Int) = V.int (m : Int)) = true := by rw [lx, hlen]; simp
        rw [z]
        refine iteT ?_
        refine ⟨_, rfl, a, rfl, ⟨_, SqT.of ha⟩, fun D hD => ?_⟩
        refine lc1_acc (walk_tup (xs := xs)) (fun i ys _ => ys = ((ds.take i).map isNumD).map V.bl ∧ i ≤ 20) (fun _ _ _ _ _ h => h) ⟨rfl, by decide⟩ hD (fun i ys _ h => by rw [h.1, List.length_map, List.length_map, List.length_take]; exact Nat.lt_of_le_of_lt (show _ ≤ 20 by omega) (by decide)) (fun H' e => SqT.of (e _ _ ha)) ?_ ?_
        · rintro i x Hi H' ys hi e hy ⟨rfl, hxi⟩ ⟨hp, _⟩ QY QN kY kN
          have hi2 : i < ds.length := by omega
          obtain ⟨x', hx', dx⟩ := DqAll_get t i ds[i] (List.getElem?_eq_getElem hi2)
          rw [hxi] at hx'
          cases hx'
          refine ⟨rfl, ?_⟩
          refine tyes ?_
          refine ⟨_, rfl, x, ds[i], rfl, dx.up e, trivial, fun H4 e4 => ?_⟩
          refine kY _ H4 e4 ⟨?_, by omega⟩
          rw [hp, List.take_add_one, List.getElem?_eq_getElem hi2, Option.toList_some, List.map_append, List.map_append]
          rfl
        · rintro H4 ys e4 hy ⟨hp, _⟩
          rw [lx, List.take_length] at hp
          refine ⟨D, ds.map isNumD, rfl, SqL.of (by rw [hy, hp]), ?_⟩
          have ec : isCsD m (.tuple ds) = (ds.map isNumD).all id := by
            show (decide (ds.length = m) && ds.all isNumD) = _
            rw [decide_eq_true hlen, Bool.true_and, List.all_map]
            rfl
          rw [← ec]
          exact q _ e4
      · have z : decide (V.int (xs.length : Int) = V.int (m : Int)) = false := by
          rw [decide_eq_false]
          intro y
          injection y with y
          omega
        rw [z]
        refine iteF ?_
        have q' := q H (Ext.refl H)
        have ec : isCsD m (.tuple ds) = false := by
          show (decide (ds.length = m) && ds.all isNumD) = false
          rw [decide_eq_false hlen, Bool.false_and]
        rw [ec] at q'
        exact q'
end
end K28

set_option Elab.async false
set_option linter.all false
set_option maxRecDepth 100000
set_option maxHeartbeats 4000000
namespace K28
open PySem PySem.Spec PyProof.Rows L2 Ol RZ
open TL (tl)
theorem lk_ne {m n : Str} {v : V} {r : List (Str × V)} (h : ¬ m = n) : ((n, v) :: r).lookup m = r.lookup m := by
  rw [List.lookup_cons, beq_eq_false_iff_ne.mpr h]
theorem lk_eq {n : Str} {v : V} {r : List (Str × V)} : ((n, v) :: r).lookup n = some v := List.lookup_cons_self
theorem putF_new {f : Str} {v : V} : ∀ {fs : List (Str × V)}, (∀ p ∈ fs, ¬ p.1 = f) → putF f v fs = fs ++ [(f, v)]
  | [], _ => rfl
  | (g, x) :: r, h => by
    show (if g = f then (g, v) :: r else (g, x) :: putF f v r) = _
    rw [if_neg (h _ List.mem_cons_self), putF_new fun p hp => h p (List.mem_cons_of_mem _ hp)]
    rfl
/-- the fields of a System -/
def sf (l s k t q : Addr) : List (Str × V) := [("_lanes", .ref l), ("_server", .ref s), ("_kinds", .ref k), ("_seats", .ref t), ("_spots", .ref q)]
theorem sf_l (l s k t q : Addr) : (sf l s k t q).lookup ("_lanes" : Str) = some (.ref l) := lk_eq
theorem sf_s (l s k t q : Addr) : (sf l s k t q).lookup ("_server" : Str) = some (.ref s) := (lk_ne (by decide +kernel)).trans lk_eq
theorem sf_k (l s k t q : Addr) : (sf l s k t q).lookup ("_kinds" : Str) = some (.ref k) := (lk_ne (by decide +kernel)).trans ((lk_ne (by decide +kernel)).trans lk_eq)
theorem sf_t (l s k t q : Addr) : (sf l s k t q).lookup ("_seats" : Str) = some (.ref t) := (lk_ne (by decide +kernel)).trans ((lk_ne (by decide +kernel)).trans ((lk_ne (by decide +kernel)).trans lk_eq))
theorem sf_q (l s k t q : Addr) : (sf l s k t q).lookup ("_spots" : Str) = some (.ref q) := (lk_ne (by decide +kernel)).trans ((lk_ne (by decide +kernel)).trans ((lk_ne (by decide +kernel)).trans ((lk_ne (by decide +kernel)).trans lk_eq)))
def noF (m : Str) : Prop := ¬ m = "_lanes" ∧ ¬ m = "_server" ∧ ¬ m = "_kinds" ∧ ¬ m = "_seats" ∧ ¬ m = "_spots"
instance (m : Str) : Decidable (noF m) := by unfold noF; infer_instance
theorem sf_no (l s k t q : Addr) {m : Str} (h : noF m) : (sf l s k t q).lookup m = none :=
  (lk_ne h.1).trans ((lk_ne h.2.1).trans ((lk_ne h.2.2.1).trans ((lk_ne h.2.2.2.1).trans (lk_ne h.2.2.2.2))))
/-- the seats -/
def seatsOf (ks : List Knd) : List (Str × Nat) := ks.flatMap fun k => (List.range (k.2.length - 1)).map fun i => (k.1, i + 1)
theorem seats_snoc (ks : List Knd) (k : Knd) : seatsOf (ks ++ [k]) = seatsOf ks ++ (List.range (k.2.length - 1)).map fun i => (k.1, i + 1) := by
  unfold seatsOf
  rw [List.flatMap_append]
  simp
def seatD (s : Str × Nat) : PyData := .tuple [.str s.1, .int (s.2 : Int)]
def seatK (s : Str × Nat) : List Key := [.inr s.1, .inl (s.2 : Int)]
theorem seatK_inj {a b : Str × Nat} (h : seatK a = seatK b) : a = b := by
  obtain ⟨a1, a2⟩ := a
  obtain ⟨b1, b2⟩ := b
  unfold seatK at h
  injection h with h1 h2
  injection h2 with h2 _
  have h1' := Sum.inr.inj h1
  have h2' := Sum.inl.inj h2
  dsimp only at h1' h2'
  have : a2 = b2 := by omega
  rw [h1', this]
theorem seat_inv {H : Hp} {v : V} {s : Str × Nat} (h : Dq H v (seatD s)) : ∃ a, v = .ref a ∧ H a = some (.tup [.str s.1, .int (s.2 : Int)]) := by
  obtain ⟨a, xs, ds, rfl, e, h1, h2⟩ := dq_tup h rfl
  unfold seatD at e
  cases e
  cases h2 with
  | cons a1 t1 => cases t1 with
    | cons a2 t2 =>
      cases t2
      cases a1
      cases a2
      exact ⟨a, rfl, h1⟩
def spotsT (ss : List (Str × Nat)) : List (List Key × V) := ss.zipIdx.map fun p => (seatK p.1, .int (p.2 : Int))
theorem spotsT_len (ss : List (Str × Nat)) : (spotsT ss).length = ss.length := by unfold spotsT; rw [List.length_map, List.length_zipIdx]
theorem spotsT_snoc (ss : List (Str × Nat)) (x : Str × Nat) : spotsT (ss ++ [x]) = spotsT ss ++ [(seatK x, .int (ss.length : Int))] := by
  unfold spotsT
  rw [List.zipIdx_append, List.map_append]
  simp
theorem valV_noneT {kvs : List (List Key × V)} {k : List Key} (h : ∀ p ∈ kvs, p.1 ≠ k) : valV kvs k = none := by
  induction kvs with
  | nil => rfl
  | cons p r ih => rw [valV_neg (h p List.mem_cons_self), ih fun q hq => h q (List.mem_cons_of_mem _ hq)]
theorem putK_newT {kvs : List (List Key × V)} {k : List Key} {v : V} (h : valV kvs k = none) : putK kvs k v = kvs ++ [(k, v)] := by
  unfold putK
  rw [valV_any, h]
  rfl
theorem spotsT_none {ss : List (Str × Nat)} {x : Str × Nat} (h : x ∉ ss) : valV (spotsT ss) (seatK x) = none := by
  refine valV_noneT fun p hp e => h ?_
  unfold spotsT at hp
  obtain ⟨y, hy, rfl⟩ := List.mem_map.mp hp
  have := seatK_inj e
  rw [← this]
  exact List.fst_mem_of_mem_zipIdx hy
theorem spotsT_val {ss : List (Str × Nat)} (hd : ss.Nodup) {i : Nat} (hi : i < ss.length) : valV (spotsT ss) (seatK ss[i]) = some (.int (i : Int)) := by
  unfold spotsT
  have h : ∀ (l : List (Str × Nat)) (k i : Nat) (hi : i < l.length), l.Nodup → valV ((l.zipIdx k).map fun p => ((seatK p.1, .int (p.2 : Int)) : List Key × V)) (seatK l[i]) = some (.int ((k + i : Nat) : Int)) := by
    intro l
    induction l with
    | nil => intro k i hi; cases hi
    | cons a l ih =>
      intro k i hi hn
      rw [List.zipIdx_cons, List.map_cons]
      cases i with
      | zero => exact valV_pos rfl
      | succ i =>
        rw [List.nodup_cons] at hn
        have hi' : i < l.length := by simpa using hi
        rw [valV_neg]
        · show valV _ (seatK l[i]) = _
          rw [ih (k + 1) i hi' hn.2]
          rw [show k + 1 + i = k + (i + 1) by omega]
        · intro z
          have z' : a = l[i] := seatK_inj z
          exact hn.1 (z' ▸ List.getElem_mem hi')
  have z := h ss 0 i hi hd
  rw [Nat.zero_add] at z
  exact z
/-- what holds of the parts of a System -/
structure GSys (ns : List Str) (sv : List Place) (ks : List Knd) : Prop where
  few : ks.length ≤ 3
  nd : (ks.map (·.1)).Nodup
  so : sortedS (ks.map (·.1)) = true
  nm : ∀ k ∈ ks, isNameS k.1 = true
  lk : ∀ k ∈ ks, ∀ x ∈ lanesP k.2, x ∈ ns
  ls : ∀ x ∈ lanesP sv, x ∈ ns
/-- a System of these lanes, this server and these kinds stands at p -/
def SysAt (S C CP : Addr) (H : Hp) (p : Addr) (ns : List Str) (bs : List Int) (sv : List Place) (ks : List Knd) : Prop :=
  ∃ dx lx sx kd st sp xs at_, H p = some (.ins S dx (sf lx sx kd st sp)) ∧ LanesAt C H lx ns bs ∧ ProgAt CP H sx sv ∧ Rd H kd (.dK (kdA ks at_)) ∧ (∀ k ∈ ks, ProgAt CP H (at_ k.1) k.2) ∧
    H st = some (.tup xs) ∧ DqAll H xs ((seatsOf ks).map seatD) ∧ H sp = some (.dT (spotsT (seatsOf ks))) ∧ GSys ns sv ks
theorem Rd.up {H H' : Hp} {a : Addr} {u : HO} (e : Ext H H') : Rd H a u → Rd H' a u
  | .inl h => .inl (e _ _ h)
  | .inr ⟨o, h⟩ => .inr ⟨o, e _ _ h⟩
theorem SysAt.up {S C CP : Addr} {H H' : Hp} {p : Addr} {ns : List Str} {bs : List Int} {sv : List Place} {ks : List Knd} (e : Ext H H') : SysAt S C CP H p ns bs sv ks → SysAt S C CP H' p ns bs sv ks
  | ⟨dx, lx, sx, kd, st, sp, xs, at_, h1, h2, h3, h4, h5, h6, h7, h8, g⟩ => ⟨dx, lx, sx, kd, st, sp, xs, at_, e _ _ h1, h2.up e, h3.up e, Rd.up e h4, fun k hk => (h5 k hk).up e, e _ _ h6, DqAll.up e h7, e _ _ h8, g⟩
/-- what the text says of the class System -/
structure ST (K : PySem.W.Frag) (mg : Str → Option Value) (S : Addr) : Prop where
  cl : Cls K S
  nL : NoAttr K S "_lanes"
  nS : NoAttr K S "_server"
  nK : NoAttr K S "_kinds"
  nT : NoAttr K S "_seats"
  nQ : NoAttr K S "_spots"
  gS : mg "System" = some (.ref S)
/-! ### the kinds, sorted -/
def plOf (kx : List Knd) (x : Str) : List Place := ((kx.find? fun k => decide (k.1 = x)).map (·.2)).getD []
theorem plOf_mem {kx : List Knd} (hd : (kx.map (·.1)).Nodup) {k : Knd} (h : k ∈ kx) : plOf kx k.1 = k.2 := by
  induction kx with
  | nil => cases h
  | cons a kx ih =>
    rw [List.map_cons, List.nodup_cons] at hd
    unfold plOf
    rw [List.find?_cons]
    rcases List.mem_cons.mp h with rfl | h
    · rw [decide_eq_true rfl]
      rfl
    · have c : ¬ a.1 = k.1 := fun z => hd.1 (by rw [z]; exact List.mem_map_of_mem h)
      rw [decide_eq_false c]
      exact ih hd.2 h
def sortedK (kx : List Knd) (us : List Str) : List Knd := us.map fun x => (x, plOf kx x)
theorem sortedK_names (kx : List Knd) (us : List Str) : (sortedK kx us).map (·.1) = us := by
  unfold sortedK
  rw [List.map_map]
  exact List.map_id us
theorem sortedK_perm {kx : List Knd} {us : List Str} (hd : (kx.map (·.1)).Nodup) (hp : us.Perm (kx.map (·.1))) : (sortedK kx us).Perm kx := by
  have h := hp.map fun x => ((x, plOf kx x) : Knd)
  have e : (kx.map (·.1)).map (fun x => ((x, plOf kx x) : Knd)) = kx := by
    rw [List.map_map]
    have : kx.map ((fun x => ((x, plOf kx x) : Knd)) ∘ fun k => k.1) = kx.map id := List.map_congr_left fun k hk => by
      show (k.1, plOf kx k.1) = k
      rw [plOf_mem hd hk]
    rw [this, List.map_id]
  rw [e] at h
  exact h
theorem seats_in {ks : List Knd} {s : Str × Nat} (h : s ∈ seatsOf ks) : s.1 ∈ ks.map (·.1) := by
  unfold seatsOf at h
  obtain ⟨k, hk, hs⟩ := List.mem_flatMap.mp h
  obtain ⟨i, _, rfl⟩ := List.mem_map.mp hs
  exact List.mem_map_of_mem hk
theorem seats_nodup {ks : List Knd} (h : (ks.map (·.1)).Nodup) : (seatsOf ks).Nodup := by
  induction ks with
  | nil => exact List.nodup_nil
  | cons k ks ih =>
    rw [List.map_cons, List.nodup_cons] at h
    show (((List.range (k.2.length - 1)).map fun i => (k.1, i + 1)) ++ seatsOf ks).Nodup
    refine List.nodup_append.mpr ⟨?_, ih h.2, fun a ha b hb e => ?_⟩
    · refine List.pairwise_map.mpr (List.nodup_range.imp ?_)
      intro a b hab e
      injection e with _ e
      omega
    · obtain ⟨i, _, rfl⟩ := List.mem_map.mp ha
      subst e
      exact h.1 (seats_in hb)
theorem seats_len {ks : List Knd} (h : ∀ k ∈ ks, k.2.length ≤ 6) : (seatsOf ks).length ≤ 5 * ks.length := by
  induction ks with
  | nil => exact Nat.le_refl _
  | cons k ks ih =>
    have := ih fun a ha => h a (List.mem_cons_of_mem _ ha)
    have := h k List.mem_cons_self
    show (((List.range (k.2.length - 1)).map fun i => (k.1, i + 1)) ++ seatsOf ks).length ≤ _
    rw [List.length_append, List.length_map, List.length_range, List.length_cons]
    omega
end K28

set_option Elab.async false
set_option linter.all false
set_option maxRecDepth 100000
set_option maxHeartbeats 4000000
namespace K28
open PySem PySem.Spec PyProof.Rows L2 Ol RZ
open TL (tl)
section
variable {P : Program} {w : World} {K : PySem.W.Frag} {mg : Str → Option Value} {base : Heap} {C CP S : Addr}
theorem n_ls : ¬ ("_lanes" : Str) = "_server" := by decide +kernel
theorem n_lk : ¬ ("_lanes" : Str) = "_kinds" := by decide +kernel
theorem n_sk : ¬ ("_server" : Str) = "_kinds" := by decide +kernel
theorem n_lt : ¬ ("_lanes" : Str) = "_seats" := by decide +kernel
theorem n_st : ¬ ("_server" : Str) = "_seats" := by decide +kernel
theorem n_kt : ¬ ("_kinds" : Str) = "_seats" := by decide +kernel
theorem n_lq : ¬ ("_lanes" : Str) = "_spots" := by decide +kernel
theorem n_sq : ¬ ("_server" : Str) = "_spots" := by decide +kernel
theorem n_kq : ¬ ("_kinds" : Str) = "_spots" := by decide +kernel
theorem n_tq : ¬ ("_seats" : Str) = "_spots" := by decide +kernel
theorem seat_step (a : List (Str × Nat)) (g : Nat → Str × Nat) (j : Nat) : (a ++ (List.range (j + 1)).map g).map seatD = (a ++ (List.range j).map g).map seatD ++ [seatD (g j)] := by
  rw [List.range_succ]
  simp
mutual
theorem dq_ins1 {H : Hp} {p S dx : Addr} {fs fs2 : List (Str × V)} (hp : H p = some (.ins S dx fs)) : ∀ {v : V} {d : PyData}, Dq H v d → Dq (upd H p (.ins S dx fs2)) v d
  | _, _, .non => .non
  | _, _, .bl b => .bl b
  | _, _, .int i => .int i
  | _, _, .str x => .str x
  | _, _, .lst h t => .lst ((upd_ne (fun z => by rw [z, hp] at h; cases h)).trans h) (dq_ins hp t)
  | _, _, .tup h t => .tup ((upd_ne (fun z => by rw [z, hp] at h; cases h)).trans h) (dq_ins hp t)
  | _, _, .dct h t => .dct ((upd_ne (fun z => by rw [z, hp] at h; cases h)).trans h) (dq_ins hp t)
theorem dq_ins {H : Hp} {p S dx : Addr} {fs fs2 : List (Str × V)} (hp : H p = some (.ins S dx fs)) : ∀ {vs : List V} {ds : List PyData}, DqAll H vs ds → DqAll (upd H p (.ins S dx fs2)) vs ds
  | _, _, .nil => .nil
  | _, _, .cons h t => .cons (dq_ins1 hp h) (dq_ins hp t)
end
abbrev cS (i : Nat) : Stmt := inClass (topS 36) i
abbrev nSI : List Str := ["self", "lanes", "server", "kinds", "kind", "place", "seat", "spot"]
theorem sc_sys : FnScope nSI ["self", "lanes", "server", "kinds"] (defScope (cS 0)) := ⟨rfl, rfl, rfl, by decide +kernel, rfl, by decide +kernel, by decide +kernel⟩
def spSys (S C CP : Addr) : Sp := fun vs H Q _ => ∃ (H0 : Hp) (p dx lx sx a : Addr) (ns : List Str) (bs : List Int) (sv : List Place) (kx : List Knd) (at_ : Str → Addr), vs = [.ref p, .ref lx, .ref sx, .ref a] ∧ H0 p = none ∧ Ext H0 H ∧ H p = some (.ins S dx []) ∧
  LanesAt C H0 lx ns bs ∧ ProgAt CP H0 sx sv ∧ H0 a = some (.dK (kdA kx at_)) ∧ kx.length ≤ 3 ∧ (kx.map (·.1)).Nodup ∧ (∀ k ∈ kx, isNameS k.1 = true ∧ ProgAt CP H0 (at_ k.1) k.2 ∧ ∀ x ∈ lanesP k.2, x ∈ ns) ∧ (∀ x ∈ lanesP sv, x ∈ ns) ∧
  ∀ H' ks, Ext H0 H' → ks.Perm kx → SysAt S C CP H' p ns bs sv ks → Q .non H'
theorem ok_sys {f : Addr} {fd : FuncData} (F : Fun K "__init__" "System.__init__" (cS 0) f fd) (T : BT mg) (SL : ST K mg S) (LL : LT K mg C) (LP : PT K mg CP) (IL : IsC K C) (IP : IsC K CP)
    (CK : Ca P w K mg base 2 "is_kinds" ["thing"] (spKinds CP)) (CL : Ca P w K mg base 3 "check_lanes" ["lanes", "programs"] (spCkL C CP)) (PZ : Pr P w K mg base CP 1 "size" (spSz CP)) :
    FnOk P w K mg base CX0 4 f fd ["self", "lanes", "server", "kinds"] (spSys S C CP) := by
  obtain ⟨xZ, fZ, fdZ, FZ, prZ, bZ⟩ := PZ.has
  refine F.ok sc_sys (fun vs H Q E h => ?_) (fun cdv A outer s H vs Q E hr h => ?_)
  · obtain ⟨H0, p, dx, lx, sx, a, ns, bs, sv, kx, at_, rfl, _⟩ := h
    rfl
  · obtain ⟨H0, p, dx, lx, sx, a, ns, bs, sv, kx, at_, rfl, hp0, e0, hp, hL, hSv, ha, hl3, hnd, hks, hls, q⟩ := h
    refine ⟨_, (pss_cons (ps_if (pt_not (pt_val (pe_callB call_isi (by rfl) T.n_isinstance (by decide +kernel) (pa_cons (pv 1) (pa_cons (pe_glob (v := .ref C) rfl LL.gC rfl) pa_nil))))) (pss_one ps_never) pss_nil)
      (pss_cons (ps_if (pt_not (pt_val (pe_callB call_isi (by rfl) T.n_isinstance (by decide +kernel) (pa_cons (pv 2) (pa_cons (pe_glob (v := .ref CP) rfl LP.gC rfl) pa_nil))))) (pss_one ps_never) pss_nil)
      (pss_cons (ps_if (pt_not (pt_val (pe_ca CK (hr.mono (by decide)) (by rfl) (pa_cons (pv 3) pa_nil)))) (pss_one ps_never) pss_nil)
      (pss_cons (ps_expr (pe_ca CL (hr.mono (by decide)) (by rfl) (pa_cons (pv 1) (pa_cons (pe_lst (pa_cons (pv 2) (StX.pa_star (pe_callTy (call_lstV rfl) (by rfl) T.n_list (by decide +kernel) (pa_cons (pe_bm0 PySem.F.plainAttrs_dict PySem.F.slot_dict_values PySem.F.type_dict_values mt_vwV (pv 3)) pa_nil)) pa_nil))) pa_nil))))
      (pss_cons (ps_fld (pv 0) (pv 1) rfl)
      (pss_cons (ps_fld (pv 0) (pv 2) rfl)
      (pss_cons (ps_fld (pv 0) (pe_dc (own := [("kind", 4)]) (g := gName 4) (tt := tYes) rfl sc_sys.nd (pi_list (pe_callB (call_sortedD rfl) (by rfl) T.n_sorted (by decide +kernel) (pa_cons (pv 3) pa_nil))) (blkOk_by (N := nSI) (sc := defScope (cS 0)) (by decide +kernel)) (fun _ _ _ _ _ => pg_name (i := 4) sc_sys.nd rfl (.inl rfl)) (fun _ _ _ _ _ => pts_nil) (fun _ _ _ _ _ => pv 4) (fun _ _ _ _ _ => pe_dget (hu_of hr) (pv 3) (pv 4) (fun _ _ => rfl))) rfl)
      (pss_cons (ps_fld (pv 0) (pe_callTy call_tuple_of (by rfl) T.n_tuple (by decide +kernel) (pa_cons (pe_lock (pe_lc2 (own := [("kind", 4), ("place", 5)]) (vs1 := [5]) (g := gName 4) (g1 := gName 5) (tt := tYes) (tt1 := tYes) (wi1 := iRng2 (tCons (tC (.int 1)) (tCons (tProp CP (spSz CP) [] E0 (tDGet (tVar 3) (tVar 4))) tNil))) (te := tTup (tCons (tVar 4) (tCons (tVar 5) tNil))) rfl sc_sys.nd (pi_keys (pe_fld (pv 0) rfl)) (blkOk_by (N := nSI) (sc := defScope (cS 0)) (by decide +kernel)) (by decide)
          (fun _ _ _ _ _ => pg_name (i := 4) sc_sys.nd rfl (.inl rfl)) (fun _ _ _ _ _ => pts_nil)
          (fun _ _ _ _ _ => pi_range2 (by rfl) T.n_range (pa_cons pe_int (pa_cons (pe_prop (pe_dget (hu_of hr) (pv 3) (pv 4) (fun _ _ => rfl)) LP.cl prZ FZ (hr.mono (by decide)) bZ .nil pass0 rfl) pa_nil)))
          (fun _ _ _ _ _ => pg_name (i := 5) sc_sys.nd rfl (.inl rfl)) (fun _ _ _ _ _ => pts_nil) (fun _ _ _ _ _ => pe_tup (pa_cons (pv 4) (pa_cons (pv 5) pa_nil))))) pa_nil)) rfl)
      (pss_one (ps_fld (pv 0) (pe_dcT (own := [("seat", 6), ("spot", 7)]) (g := gTup K 2 (gCons (gName 7) (gCons (gName 6) gNil))) (tt := tYes) rfl (hu_of hr) sc_sys.nd (pi_enumT (by rfl) LL.n_enum (pa_cons (pe_fld (pv 0) rfl) pa_nil)) (blkOk_by (N := nSI) (sc := defScope (cS 0)) (by decide +kernel)) (fun _ _ _ _ _ => pg_tup (by rfl) (pgs_cons (pg_name (i := 7) sc_sys.nd rfl (.inl rfl)) (pgs_cons (pg_name (i := 6) sc_sys.nd rfl (.inl rfl)) pgs_nil))) (fun _ _ _ _ _ => pts_nil) (fun _ _ _ _ _ => pv 6) (fun _ _ _ _ _ => pv 7)) rfl)))))))))), ?_⟩
    have hL1 := hL.up e0
    have hS1 := hSv.up e0
    obtain ⟨dxl, ln, lb, lsp, l1, _⟩ := id hL1
    obtain ⟨dxs, t0, u0, xs0, us0, s1, _⟩ := id hS1
    refine ⟨_, rfl, _, _, _, _, _, rfl, .own C, IL.ty LL.cl l1, IL.kC, _, rfl, ?_⟩
    refine iteF ?_
    refine ⟨_, rfl, _, _, _, _, _, rfl, .own CP, IP.ty LP.cl s1, IP.kC, _, rfl, ?_⟩
    refine iteF ?_
    refine ⟨_, rfl, a, kx, at_, rfl, e0 _ _ ha, hl3, fun k hk => ⟨(hks k hk).1, (hks k hk).2.1.up e0⟩, fun H1 e1 => ⟨_, rfl, ?_⟩⟩
    refine iteF ?_
    have e01 := e0.trans e1
    -- the lanes of all programs
    refine ⟨_, rfl, _, rfl, _, rfl, .inr (.inr (.inl ⟨rfl, .inl ⟨_, e01 _ _ ha⟩⟩)), a, _, rfl, rfl, e01 _ _ ha, fun pw hw => ?_⟩
    have ew := Ext.new (o := viewV pw a) hw
    refine ⟨pw, a, _, rfl, upd_same, ew _ _ (e01 _ _ ha), fun l hl => ?_⟩
    have el := Ext.new (o := .lst ((kdA kx at_).map (·.2))) hl
    refine ⟨l, _, rfl, .inr (SqL.of upd_same), ?_⟩
    have lk := kdA_len kx at_
    refine ⟨by show (V.ref sx :: ((kdA kx at_).map (·.2) ++ [])).length ≤ sizeLine; rw [List.length_cons, List.append_nil, List.length_map, lk]; exact Nat.le_trans (Nat.succ_le_succ hl3) (by decide), fun l2 hl2 => ?_⟩
    have el2 := Ext.new (o := .lst (V.ref sx :: ((kdA kx at_).map (·.2) ++ []))) hl2
    have e2 := (ew.trans el).trans el2
    have e02 := e01.trans e2
    refine ⟨lx, l2, ns, bs, sx :: kx.map fun k => at_ k.1, rfl, hL.up e02, ?_, by rw [List.length_cons, List.length_map]; omega, ?_, fun H2 e3 => ?_⟩
    · rw [upd_same]
      congr 2
      rw [List.map_cons, List.append_nil]
      unfold kdA
      rw [List.map_map, List.map_map]
      rfl
    · intro z hz
      rcases List.mem_cons.mp hz with rfl | hz
      · exact ⟨sv, hSv.up e02, hls⟩
      · obtain ⟨k, hk, rfl⟩ := List.mem_map.mp hz
        obtain ⟨_, b2, b3⟩ := hks k hk
        exact ⟨k.2, b2.up e02, b3⟩
    have hp2 := (e1.trans (e2.trans e3)) _ _ hp
    have e03 := e02.trans e3
    -- the lanes, the server
    refine ⟨_, rfl, _, rfl, p, S, dx, [], rfl, hp2, SL.cl, SL.nL, (by show 0 < 1000; decide), ?_⟩
    have pf1 : putF "_lanes" (V.ref lx) [] = ([("_lanes", V.ref lx)] : List (Str × V)) := putF_new (fs := []) fun p hp => by cases hp
    rw [pf1]
    have e4 := Ext.mut (o := .ins S dx [("_lanes", V.ref lx)]) e03 hp0
    have h4p := upd_same (H := H2) (a := p) (o := .ins S dx [("_lanes", V.ref lx)])
    generalize upd H2 p (.ins S dx [("_lanes", V.ref lx)]) = H4 at e4 h4p ⊢
    refine ⟨_, rfl, _, rfl, p, S, dx, _, rfl, h4p, SL.cl, SL.nS, (by show 1 < 1000; decide), ?_⟩
    have pf2 : putF "_server" (V.ref sx) [("_lanes", V.ref lx)] = ([("_lanes", V.ref lx), ("_server", V.ref sx)] : List (Str × V)) := putF_new fun p hp => by
      cases List.mem_singleton.mp hp
      exact n_ls
    rw [pf2]
    have e5 := Ext.mut (o := .ins S dx [("_lanes", V.ref lx), ("_server", V.ref sx)]) e4 hp0
    have h5p := upd_same (H := H4) (a := p) (o := .ins S dx [("_lanes", V.ref lx), ("_server", V.ref sx)])
    generalize upd H4 p (.ins S dx [("_lanes", V.ref lx), ("_server", V.ref sx)]) = H5 at e5 h5p ⊢
    -- the kinds
    refine ⟨_, rfl, a, _, kx.map (·.1), rfl, Rd.of (e5 _ _ ha), kdA_keys kx at_, by rw [List.length_map]; omega, fun us l3 hperm hso hl3' => ?_⟩
    have e6 := Ext.new (o := .lst (us.map V.str)) hl3'
    have k6 := upd_same (H := H5) (a := l3) (o := HO.lst (us.map V.str))
    have h6p := e6 _ _ h5p
    have e06 := e5.trans e6
    generalize upd H5 l3 (.lst (us.map V.str)) = H6 at e06 k6 h6p ⊢
    clear e6
    have hunod : us.Nodup := hperm.nodup_iff.mpr hnd
    have lus : us.length = kx.length := by rw [hperm.length_eq, List.length_map]
    have knm := sortedK_names kx us
    have kpm := sortedK_perm hnd hperm
    have lks : (sortedK kx us).length = us.length := by unfold sortedK; rw [List.length_map]
    generalize hks0 : sortedK kx us = ks at knm kpm lks
    have ksn : ∀ i (h : i < ks.length) (h2 : i < us.length), us[i] = ks[i].1 := fun i h h2 => by
      have : (ks.map (·.1))[i]? = us[i]? := by rw [knm]
      rw [List.getElem?_map, List.getElem?_eq_getElem h, List.getElem?_eq_getElem h2] at this
      exact (Option.some.inj this).symm
    have ml : (us.map V.str).length = us.length := List.length_map ..
    refine ⟨l3, rfl, ⟨_, SqL.of k6⟩, fun kd hkd => ?_⟩
    have hkd0 : H0 kd = none := e06.free hkd
    refine dc_it (w := walk_list (xs := us.map V.str)) (fun i Hi => Ext H6 Hi ∧ Hi kd = some (.dK (kdA (ks.take i) at_))) ⟨Ext.new hkd, by rw [List.take_zero]; exact upd_same⟩ (fun i Hi _ h => SqL.of (h.1 _ _ k6)) ?_ ?_
    · rintro i v Hi H' hi ⟨ei, hdi⟩ ⟨rfl, hvi⟩
      rw [ml] at hi
      rw [List.getElem?_map, List.getElem?_eq_getElem hi] at hvi
      cases hvi
      have hi2 : i < ks.length := by omega
      refine ⟨rfl, ?_⟩
      refine tyes ?_
      have mm : us[i] ∈ kx.map (·.1) := hperm.mem_iff.mp (List.getElem_mem hi)
      have g := DGet.k (k := .inr us[i]) ((e06.trans ei) _ _ ha)
      rw [kdA_val, if_pos mm] at g
      have hni : us[i] ∉ (ks.take i).map (·.1) := fun z => by
        rw [List.map_take, knm] at z
        obtain ⟨j, hj, ej⟩ := List.getElem_of_mem z
        rw [List.length_take] at hj
        rw [List.getElem_take] at ej
        exact List.pairwise_iff_getElem.mp hunod j i (by omega) hi (by omega) ej
      refine ⟨_, rfl, _, rfl, _, rfl, a, _, rfl, g, kdA (ks.take i) at_, .inr us[i], rfl, hdi, ?_, Ext.mut ei hkd, ?_⟩
      · rw [kdA_len, List.length_take]
        exact Nat.lt_of_le_of_lt (show _ ≤ 60 by omega) (by decide)
      · rw [upd_same, putK_new (by rw [kdA_val, if_neg hni]), List.take_add_one, List.getElem?_eq_getElem hi2]
        show _ = some (HO.dK (kdA (ks.take i ++ [ks[i]]) at_))
        unfold kdA
        rw [List.map_append, ksn i hi2 hi]
        rfl
    rintro H7 ⟨e67, h7k⟩
    rw [ml, ← lks, List.take_length] at h7k
    have e07 := e06.trans e67
    have h7p := e67 _ _ h6p
    have nkp : p ≠ kd := fun z => by rw [z, hkd] at h6p; cases h6p
    have nka : a ≠ kd := fun z => by rw [z, hkd0] at ha; cases ha
    refine ⟨_, rfl, p, S, dx, _, rfl, h7p, SL.cl, SL.nK, (by show 2 < 1000; decide), ?_⟩
    have pf3 : putF "_kinds" (V.ref kd) [("_lanes", V.ref lx), ("_server", V.ref sx)] = ([("_lanes", V.ref lx), ("_server", V.ref sx), ("_kinds", V.ref kd)] : List (Str × V)) := putF_new fun p hp => by
      simp only [List.mem_cons, List.not_mem_nil, or_false] at hp
      rcases hp with rfl | rfl
      · exact n_lk
      · exact n_sk
    rw [pf3]
    have e8 := Ext.mut (o := .ins S dx [("_lanes", V.ref lx), ("_server", V.ref sx), ("_kinds", V.ref kd)]) e07 hp0
    have h8p := upd_same (H := H7) (a := p) (o := .ins S dx [("_lanes", V.ref lx), ("_server", V.ref sx), ("_kinds", V.ref kd)])
    have h8k : (upd H7 p (.ins S dx [("_lanes", V.ref lx), ("_server", V.ref sx), ("_kinds", V.ref kd)])) kd = some (.dK (kdA ks at_)) := by rw [upd_ne (Ne.symm nkp)]; exact h7k
    generalize upd H7 p (.ins S dx [("_lanes", V.ref lx), ("_server", V.ref sx), ("_kinds", V.ref kd)]) = H8 at e8 h8p h8k ⊢
    have hks' : ∀ k ∈ ks, isNameS k.1 = true ∧ ProgAt CP H0 (at_ k.1) k.2 ∧ ∀ x ∈ lanesP k.2, x ∈ ns := fun k hk => hks k (kpm.mem_iff.mp hk)
    have lk3 : ks.length ≤ 3 := by omega
    have six : ∀ k ∈ ks, k.2.length ≤ 6 := fun k hk => by
      obtain ⟨_, _, _, _, _, _, _, _, _, _, _, _, _, ok⟩ := (hks' k hk).2.1
      exact ok.few
    -- the seats
    have lkk : ([("_lanes", V.ref lx), ("_server", V.ref sx), ("_kinds", V.ref kd)] : List (Str × V)).lookup ("_kinds" : Str) = some (.ref kd) := (lk_ne (by decide +kernel)).trans ((lk_ne (by decide +kernel)).trans lk_eq)
    refine ⟨kd, _, h8k, trivial, fun od => ?_⟩
    have e9 := Ext.mut (o := .frz od (.dK (kdA ks at_))) e8 hkd0
    have h9p : (upd H8 kd (.frz od (.dK (kdA ks at_)))) p = some (.ins S dx [("_lanes", V.ref lx), ("_server", V.ref sx), ("_kinds", V.ref kd)]) := by rw [upd_ne nkp]; exact h8p
    have h9k := upd_same (H := H8) (a := kd) (o := .frz od (.dK (kdA ks at_)))
    have e89 : ∀ b o, b ≠ kd → H8 b = some o → (upd H8 kd (.frz od (.dK (kdA ks at_)))) b = some o := fun b o n z => by rw [upd_ne n]; exact z
    generalize upd H8 kd (.frz od (.dK (kdA ks at_))) = H9 at e9 h9p h9k e89 ⊢
    refine ⟨_, rfl, p, S, dx, _, _, rfl, h9p, SL.cl, SL.nK, lkk, kd, od, rfl, .inl ⟨_, h9k, fun D hD => ?_⟩⟩
    have nDk : D ≠ kd := fun z => by rw [z, h9k] at hD; cases hD
    have hD0 : H0 D = none := e9.free hD
    refine lc2_acc (walk_keys (kvs := kdA ks at_)) (fun i j ys Hd => i ≤ 3 ∧ j ≤ 5 ∧ DqAll (del Hd kd) ys (((seatsOf (ks.take i)) ++ (List.range j).map fun t => (((ks[i]?.map (·.1)).getD Str.empty, t + 1) : Str × Nat)).map seatD))
      (fun _ _ _ _ _ e ⟨h1, h2, h⟩ => ⟨h1, h2, DqAll.up (ext_del e) h⟩) ⟨by decide, by decide, .nil⟩ hD
      (fun i j ys _ ⟨h1, h2, h⟩ => by
        rw [h.len, List.length_map, List.length_append, List.length_map, List.length_range]
        have z := seats_len (ks := ks.take i) fun k hk => six k (List.mem_of_mem_take hk)
        rw [List.length_take] at z
        exact Nat.lt_of_le_of_lt (show _ ≤ 60 by omega) (by decide)) (fun H' e => e _ _ h9k) ?_ ?_
    · rintro i x Hi H' ys hi ei hy ⟨rfl, kk, vv, hkv, rfl⟩ ⟨b1, b2, hz⟩ R hR
      rw [kdA_len] at hi
      rw [kdA_at hi] at hkv
      cases hkv
      have e0i := e9.trans ei
      obtain ⟨_, c2, _⟩ := hks' _ (List.getElem_mem hi)
      have c2' := c2.up e0i
      have six' := six _ (List.getElem_mem hi)
      obtain ⟨dk, t1, u1, xs1, us1, k1, _⟩ := id c2'
      have mm : ks[i].1 ∈ kx.map (·.1) := (kpm.map (·.1)).mem_iff.mp (List.mem_map_of_mem (List.getElem_mem hi))
      have g := DGet.k (k := .inr ks[i].1) (e0i _ _ ha)
      rw [kdA_val, if_pos mm] at g
      refine ⟨rfl, ?_⟩
      refine ⟨_, rfl, _, rfl, a, _, rfl, g, at_ ks[i].1, dk, _, rfl, k1, at_ ks[i].1, ks[i].2, rfl, c2', 1, (ks[i].2.length : Int), rfl, ⟨by decide, by decide, by omega, by omega⟩, hR _ _ _ ⟨Ext.refl _, ((ks[i].2.length : Int) - 1).toNat, _, _, walk_range, fun _ _ => trivial, ?_, ?_⟩⟩
      · rintro zs Hz ⟨_, _, h⟩
        refine ⟨by omega, by decide, ?_⟩
        rw [List.take_add_one, List.getElem?_eq_getElem hi, Option.toList_some, seats_snoc]
        rw [List.getElem?_eq_getElem hi] at h
        have ez : ((ks[i].2.length : Int) - 1).toNat = ks[i].2.length - 1 := by omega
        rw [ez] at h
        rw [List.range_zero, List.map_nil, List.append_nil]
        exact h
      · rintro j y Ha Hb zs hj eH ha2 ⟨rfl, rfl⟩ ⟨_, _, h⟩ QY QN kY kN
        refine ⟨rfl, ?_⟩
        refine tyes ?_
        refine ⟨_, rfl, _, rfl, by show 2 ≤ sizeLine; decide, fun t ht => ?_⟩
        have et := Ext.new (o := .tup [.str ks[i].1, .int (1 + (j : Int))]) ht
        have n1 : t ≠ kd := fun z => by
          have := eH _ _ (by rw [del_ne (Ne.symm nDk)]; exact ei _ _ h9k)
          rw [z, this] at ht
          cases ht
        have n2 : t ≠ D := fun z => by rw [z, ha2] at ht; cases ht
        refine kY _ _ et ⟨b1, by omega, ?_⟩
        rw [seat_step]
        refine dq_app (DqAll.up (ext_del (ext_del et)) h) (.cons ?_ .nil)
        rw [List.getElem?_eq_getElem hi]
        show Dq _ _ (.tuple [.str ks[i].1, .int ((j + 1 : Nat) : Int)])
        have ej : (1 + (j : Int)) = ((j + 1 : Nat) : Int) := by omega
        rw [← ej]
        exact .tup (by rw [del_ne n1, del_ne n2]; exact upd_same) (.cons (.str _) (.cons (.int _) .nil))
    rintro H10 ys e10 h10D ⟨_, _, hz⟩
    rw [kdA_len, List.take_length, List.range_zero, List.map_nil, List.append_nil] at hz
    have h10p := e10 _ _ h9p
    have h10k := e10 _ _ h9k
    refine ⟨h10k, D, _, rfl, .inl ⟨SqL.of ((upd_ne nDk).trans h10D), fun st hst => ?_⟩⟩
    have nks : st ≠ kd := fun z => by rw [z, upd_same] at hst; cases hst
    have e11 : Ext (del H10 kd) (upd (upd H10 kd (.dK (kdA ks at_))) st (.tup ys)) := fun b o z => by
      have c : b ≠ kd := fun c => by rw [c, del_same] at z; cases z
      rw [del_ne c] at z
      exact Ext.new hst _ _ (by rw [upd_ne c]; exact z)
    have e011 : Ext H0 (upd (upd H10 kd (.dK (kdA ks at_))) st (.tup ys)) := (ext_to (e9.trans e10) hkd0).trans e11
    have h11p := e11 _ _ (by rw [del_ne nkp]; exact h10p)
    have h11s := upd_same (H := upd H10 kd (.dK (kdA ks at_))) (a := st) (o := HO.tup ys)
    have h11k : (upd (upd H10 kd (.dK (kdA ks at_))) st (.tup ys)) kd = some (.dK (kdA ks at_)) := by rw [upd_ne (Ne.symm nks)]; exact upd_same
    have h11z := DqAll.up e11 hz
    generalize upd (upd H10 kd (.dK (kdA ks at_))) st (.tup ys) = H11 at e011 h11p h11s h11k h11z ⊢
    refine ⟨_, rfl, p, S, dx, _, rfl, h11p, SL.cl, SL.nT, (by show 3 < 1000; decide), ?_⟩
    have pf4 : putF "_seats" (V.ref st) [("_lanes", V.ref lx), ("_server", V.ref sx), ("_kinds", V.ref kd)] = ([("_lanes", V.ref lx), ("_server", V.ref sx), ("_kinds", V.ref kd), ("_seats", V.ref st)] : List (Str × V)) := putF_new fun p hp => by
      simp only [List.mem_cons, List.not_mem_nil, or_false] at hp
      rcases hp with rfl | rfl | rfl
      · exact n_lt
      · exact n_st
      · exact n_kt
    rw [pf4]
    have nps : p ≠ st := fun z => by rw [z, h11s] at h11p; cases h11p
    have e12 := Ext.mut (o := .ins S dx [("_lanes", V.ref lx), ("_server", V.ref sx), ("_kinds", V.ref kd), ("_seats", V.ref st)]) e011 hp0
    have h12p := upd_same (H := H11) (a := p) (o := .ins S dx [("_lanes", V.ref lx), ("_server", V.ref sx), ("_kinds", V.ref kd), ("_seats", V.ref st)])
    have h12s : (upd H11 p (.ins S dx [("_lanes", V.ref lx), ("_server", V.ref sx), ("_kinds", V.ref kd), ("_seats", V.ref st)])) st = some (.tup ys) := by rw [upd_ne (Ne.symm nps)]; exact h11s
    have h12k : (upd H11 p (.ins S dx [("_lanes", V.ref lx), ("_server", V.ref sx), ("_kinds", V.ref kd), ("_seats", V.ref st)])) kd = some (.dK (kdA ks at_)) := by rw [upd_ne (Ne.symm nkp)]; exact h11k
    have h12z : DqAll (upd H11 p (.ins S dx [("_lanes", V.ref lx), ("_server", V.ref sx), ("_kinds", V.ref kd), ("_seats", V.ref st)])) ys ((seatsOf ks).map seatD) := dq_ins h11p h11z
    generalize upd H11 p (.ins S dx [("_lanes", V.ref lx), ("_server", V.ref sx), ("_kinds", V.ref kd), ("_seats", V.ref st)]) = H12 at e12 h12p h12s h12k h12z ⊢
    have lys : ys.length = (seatsOf ks).length := by rw [h12z.len, List.length_map]
    have knd : (ks.map (·.1)).Nodup := by rw [knm]; exact hunod
    have snd := seats_nodup knd
    have lkt : ([("_lanes", V.ref lx), ("_server", V.ref sx), ("_kinds", V.ref kd), ("_seats", V.ref st)] : List (Str × V)).lookup ("_seats" : Str) = some (.ref st) := (lk_ne (by decide +kernel)).trans ((lk_ne (by decide +kernel)).trans ((lk_ne (by decide +kernel)).trans lk_eq))
    -- their places
    refine ⟨_, rfl, p, S, dx, _, _, rfl, h12p, SL.cl, SL.nT, lkt, st, _, rfl, SqT.of h12s, fun D2 hD2 => ?_⟩
    refine dcT_it (w := walk_enumT (xs := ys)) (fun i Hi => Ext H12 Hi ∧ Hi D2 = some (.dT (spotsT ((seatsOf ks).take i)))) ⟨Ext.new hD2, upd_same⟩ (fun i Hi _ h => SqT.of (h.1 _ _ h12s)) ?_ ?_
    · rintro i v Hi H' hi ⟨ei, hdi⟩ ⟨T', y1, y2, rfl, hT, rfl, g1, g2⟩
      have hi2 : i < (seatsOf ks).length := by omega
      cases g1
      dsimp only at g2
      obtain ⟨v', hv', dv⟩ := DqAll_get h12z i (seatD (seatsOf ks)[i]) (by rw [List.getElem?_map, List.getElem?_eq_getElem hi2]; rfl)
      rw [g2] at hv'
      cases hv'
      obtain ⟨b, rfl, hb⟩ := seat_inv dv
      have eT := Ext.new (o := .tup [.int (i : Int), .ref b]) hT
      refine ⟨T', _, rfl, SqT.of upd_same, rfl, _, _, rfl, _, _, rfl, rfl, rfl, ?_⟩
      refine tyes ?_
      have hns : (seatsOf ks)[i] ∉ (seatsOf ks).take i := fun z => by
        obtain ⟨j, hj, ej⟩ := List.getElem_of_mem z
        rw [List.length_take] at hj
        rw [List.getElem_take] at ej
        exact List.pairwise_iff_getElem.mp snd j i (by omega) hi2 (by omega) ej
      have z60 := seats_len six
      refine ⟨_, rfl, _, rfl, spotsT ((seatsOf ks).take i), seatK (seatsOf ks)[i], b, rfl, (ei.trans eT) _ _ hb, eT _ _ hdi, ?_, Ext.mut (ei.trans eT) hD2, ?_⟩
      · rw [spotsT_len, List.length_take]
        exact Nat.lt_of_le_of_lt (show _ ≤ 60 by omega) (by decide)
      · rw [upd_same, putK_newT (spotsT_none hns), List.take_add_one, List.getElem?_eq_getElem hi2]
        show _ = some (HO.dT (spotsT ((seatsOf ks).take i ++ [(seatsOf ks)[i]])))
        rw [spotsT_snoc, List.length_take, Nat.min_eq_left (Nat.le_of_lt hi2)]
    rintro H13 ⟨e13, h13d⟩
    rw [lys, List.take_length] at h13d
    have h13p := e13 _ _ h12p
    have npD : p ≠ D2 := fun z => by rw [← z, h12p] at hD2; cases hD2
    refine ⟨_, rfl, p, S, dx, _, rfl, h13p, SL.cl, SL.nQ, (by show 4 < 1000; decide), ?_⟩
    have pf5 : putF "_spots" (V.ref D2) [("_lanes", V.ref lx), ("_server", V.ref sx), ("_kinds", V.ref kd), ("_seats", V.ref st)] = sf lx sx kd st D2 := putF_new fun p hp => by
      simp only [List.mem_cons, List.not_mem_nil, or_false] at hp
      rcases hp with rfl | rfl | rfl | rfl
      · exact n_lq
      · exact n_sq
      · exact n_kq
      · exact n_tq
    rw [pf5]
    have e14 := Ext.mut (o := .ins S dx (sf lx sx kd st D2)) (e12.trans e13) hp0
    refine q _ ks e14 kpm ⟨dx, lx, sx, kd, st, D2, ys, at_, upd_same, hL.up e14, hSv.up e14, .inl ?_, fun k hk => (hks' k hk).2.1.up e14, ?_, dq_ins h13p (DqAll.up e13 h12z), ?_, ⟨lk3, knd, by rw [knm]; exact hso, fun k hk => (hks' k hk).1, fun k hk => (hks' k hk).2.2, hls⟩⟩
    · rw [upd_ne (Ne.symm nkp)]
      exact e13 _ _ h12k
    · rw [upd_ne (Ne.symm nps)]
      exact e13 _ _ h12s
    · rw [upd_ne (Ne.symm npD)]
      exact h13d
end
end K28

set_option Elab.async false
set_option linter.all false
set_option maxRecDepth 100000
set_option maxHeartbeats 4000000
namespace K28
open PySem PySem.Spec PyProof.Rows L2 Ol RZ
open TL (tl)
/-! ### standings -/
structure Std where
  pl : Nat
  cs : List (Nat × Bool)
  ct : List Nat
def cntL (ct : List Nat) : List PyData := ct.map fun n : Nat => .int (n : Int)
def cntD (ct : List Nat) : PyData := .tuple (cntL ct)
def stgD (s : Std) : PyData := .tuple [.int (s.pl : Int), ctD s.cs, cntD s.ct]
def headD (s : Std) : PyData := .tuple [.int (s.pl : Int), ctD s.cs]
def aboveB (a b : Std) : Bool := PyData.eqv (headD a) (headD b) && (List.range (min a.ct.length b.ct.length)).all fun k => decide (b.ct.getD k 0 ≤ a.ct.getD k 0)
theorem cnt_get {H : Hp} {xs : List V} {ct : List Nat} (h : DqAll H xs (cntL ct)) : xs = ct.map fun n : Nat => V.int (n : Int) := by
  induction ct generalizing xs with
  | nil => cases h; rfl
  | cons n ct ih =>
    cases h with
    | cons a t =>
      cases a
      rw [ih t]
      rfl
theorem stg_inv {H : Hp} {v : V} {s : Std} (h : Dq H v (stgD s)) : ∃ a b c xs, v = .ref a ∧ H a = some (.tup [.int (s.pl : Int), .ref b, .ref c]) ∧ H b = some (.tup xs) ∧ DqAll H xs (ctL s.cs) ∧ H c = some (.tup (s.ct.map fun n : Nat => V.int (n : Int))) := by
  obtain ⟨a, xs, ds, rfl, e, h1, h2⟩ := dq_tup h rfl
  unfold stgD at e
  cases e
  cases h2 with
  | cons a1 t1 => cases t1 with
    | cons a2 t2 => cases t2 with
      | cons a3 t3 =>
        cases t3
        cases a1
        obtain ⟨b, ys, rfl, k1, k2, _⟩ := ct_inv a2
        obtain ⟨c, zs, es, rfl, e3, k3, k4⟩ := dq_tup a3 rfl
        unfold cntD at e3
        cases e3
        rw [cnt_get k4] at k3
        exact ⟨a, b, c, ys, rfl, h1, k1, k2, k3⟩
theorem stg_mk {H : Hp} {a b c : Addr} {xs : List V} {s : Std} (h1 : H a = some (.tup [.int (s.pl : Int), .ref b, .ref c])) (h2 : H b = some (.tup xs)) (h3 : DqAll H xs (ctL s.cs)) (h4 : H c = some (.tup (s.ct.map fun n : Nat => V.int (n : Int)))) : Dq H (.ref a) (stgD s) := by
  refine .tup h1 (.cons (.int _) (.cons (.tup h2 h3) (.cons (.tup h4 ?_) .nil)))
  unfold cntL
  induction s.ct with
  | nil => exact .nil
  | cons n ct ih => exact .cons (.int _) ih
theorem lay_head (s : Std) : (headD s).canLay0 = true := by
  unfold headD
  rw [PyData.canLay0]
  refine lay_all fun d hd => ?_
  simp only [List.mem_cons, List.not_mem_nil, or_false] at hd
  rcases hd with rfl | rfl
  · simp [PyData.canLay0]
  · exact lay_ct _
theorem dep_st (c : Nat) (b : Bool) : (stD c b).depth ≤ 3 := by simp [stD, PyData.depth, PyData.depthAll]
theorem dep_all {n : Nat} : ∀ {ds : List PyData}, (∀ d ∈ ds, d.depth ≤ n) → PyData.depthAll ds ≤ n
  | [], _ => by simp [PyData.depthAll]
  | d :: ds, h => by
    simp only [PyData.depthAll]
    have := h d List.mem_cons_self
    have := dep_all fun e he => h e (List.mem_cons_of_mem _ he)
    omega
theorem dep_ct (cs : List (Nat × Bool)) : (ctD cs).depth ≤ 5 := by
  unfold ctD
  have := dep_all (n := 3) (ds := ctL cs) fun d hd => by
    obtain ⟨s, _, rfl⟩ := List.mem_map.mp hd
    exact dep_st _ _
  simp only [PyData.depth]
  omega
theorem sh_head (s : Std) : SeqAt.shaped (headD s) = true := by
  refine lay_shaped (lay_head s) ?_
  have := dep_all (n := 5) (ds := [.int (s.pl : Int), ctD s.cs]) fun d hd => by
    simp only [List.mem_cons, List.not_mem_nil, or_false] at hd
    rcases hd with rfl | rfl
    · simp [PyData.depth]
    · exact dep_ct _
  show (PyData.tuple _).depth ≤ 64
  simp only [PyData.depth]
  omega
def isPlD (n : Nat) : PyData → Bool
  | .int i => decide (0 ≤ i ∧ i < (n : Int))
  | _ => false
def isStdD (bs : List Int) (n m : Nat) : PyData → Bool
  | .tuple [a, b, c] => isPlD n a && (isCtD bs b && isCsD m c)
  | _ => false
theorem isStd_not {bs : List Int} {n m : Nat} {d : PyData} (h : kT d = false) : isStdD bs n m d = false := by
  cases d with
  | tuple ds => cases h
  | _ => rfl
theorem isStd_len {bs : List Int} {n m : Nat} {ds : List PyData} (h : ds.length ≠ 3) : isStdD bs n m (.tuple ds) = false := by
  match ds, h with
  | [], _ => rfl
  | [_], _ => rfl
  | [_, _], _ => rfl
  | [_, _, _], h => exact absurd rfl h
  | _ :: _ :: _ :: _ :: _, _ => rfl
section
variable {P : Program} {w : World} {K : PySem.W.Frag} {mg : Str → Option Value} {base : Heap} {C CP S : Addr}
/-! ### is_standing -/
def spIsStd (S C CP : Addr) : Sp := fun vs H Q _ => ∃ (p : Addr) (ns : List Str) (bs : List Int) (sv : List Place) (ks : List Knd) (v : V) (d : PyData), vs = [.ref p, v] ∧ SysAt S C CP H p ns bs sv ks ∧ (seatsOf ks).length ≤ 20 ∧ Dq H v d ∧
  ∀ H', Ext H H' → Q (.bl (isStdD bs sv.length (seatsOf ks).length d)) H'
abbrev nIS : List Str := ["self", "thing", "place", "content", "counts"]
theorem sc_isStd : FnScope nIS ["self", "thing"] (defScope (cS 10)) := ⟨rfl, rfl, rfl, by decide +kernel, rfl, by decide +kernel, by decide +kernel⟩
theorem ok_isStd {f : Addr} {fd : FuncData} (F : Fun K "is_standing" "System.is_standing" (cS 10) f fd) (T : BT mg) (SL : ST K mg S) (LL : LT K mg C) (LP : PT K mg CP)
    (C2 : Ca P w K mg base 2 "is_number" ["thing"] (spPred Any isNumD)) (CC : Ca P w K mg base 3 "is_counts" ["thing", "many"] spCounts) (MC : Cm P w K mg base C 4 "is_content" ["self", "thing"] (spIsCt C)) (PZ : Pr P w K mg base CP 1 "size" (spSz CP)) :
    FnOk P w K mg base CX0 5 f fd ["self", "thing"] (spIsStd S C CP) := by
  obtain ⟨xZ, fZ, fdZ, FZ, prZ, bZ⟩ := PZ.has
  refine F.ok sc_isStd (fun vs H Q E h => ?_) (fun cdv A outer s H vs Q E hr h => ?_)
  · obtain ⟨p, ns, bs, sv, ks, v, d, rfl, _⟩ := h
    rfl
  · obtain ⟨p, ns, bs, sv, ks, v, d, rfl, hS, h20, hd, q⟩ := h
    refine ⟨_, (pss_cons (ps_if (PW.pt (pw_or (pt_not (pt_val (pe_callB call_isi (by rfl) T.n_isinstance (by decide +kernel) (pa_cons (pv 1) (pa_cons (pe_bltn (v := .ty "tuple") (by rfl) T.n_tuple (by decide +kernel) rfl) pa_nil))))) (pw_or1 (pt_cmpR op_ne (pe_callB call_len_seq (by rfl) T.n_len (by decide +kernel) (pa_cons (pv 1) pa_nil)) pe_int (nomark _))))) (pss_one (ps_ret pe_bl)) pss_nil)
      (pss_cons (ps_asg (pv 1) (pg_tup (by rfl) (pgs_cons (pg_name (i := 2) sc_isStd.nd rfl (.inl rfl)) (pgs_cons (pg_name (i := 3) sc_isStd.nd rfl (.inl rfl)) (pgs_cons (pg_name (i := 4) sc_isStd.nd rfl (.inl rfl)) pgs_nil)))))
      (pss_cons (ps_if (PW.pt (pw_or (pt_not (pt_val (pe_ca C2 (hr.mono (by decide)) (by rfl) (pa_cons (pv 2) pa_nil)))) (pw_or1 (pt_cmpR op_ge (pv 2) (pe_prop (pe_fld (pv 0) rfl) LP.cl prZ FZ (hr.mono (by decide)) bZ .nil pass0 rfl) (nomark _))))) (pss_one (ps_ret pe_bl)) pss_nil)
      (pss_one (ps_ret (pe_and (pe_cm MC LL.cl (hr.mono (by decide)) (pe_fld (pv 0) rfl) (pa_cons (pv 3) pa_nil)) (pe_one (pe_ca CC (hr.mono (by decide)) (by rfl) (pa_cons (pv 4) (pa_cons (pe_callB call_len_seq (by rfl) T.n_len (by decide +kernel) (pa_cons (pe_fld (pv 0) rfl) pa_nil)) pa_nil)))))))))), ?_⟩
    refine ⟨_, rfl, _, _, _, _, _, rfl, .ty "tuple", ty_of hd, ki_tuple d, _, rfl, ?_⟩
    cases hT : kT d with
    | false =>
      refine iteT ?_
      have q' := q H (Ext.refl H)
      rw [isStd_not hT] at q'
      exact q'
    | true =>
      refine iteF ?_
      obtain ⟨a, xs, ds, rfl, rfl, ha, t⟩ := dq_tup hd hT
      have lx := t.len
      refine ⟨_, rfl, a, _, rfl, .inr (SqT.of ha), rfl, _, rfl, ?_⟩
      by_cases hlen : ds.length = 3
      · have z : (!decide (V.int (xs.length : Int) = V.int 3)) = false := by rw [lx, hlen]; decide +kernel
        rw [z]
        refine iteF ?_
        obtain ⟨v0, v1, v2, d0, d1, d2, rfl, rfl, t0, t1, t2⟩ := three_of t (by omega)
        have e0 : isStdD bs sv.length (seatsOf ks).length (.tuple [d0, d1, d2]) = (isPlD sv.length d0 && (isCtD bs d1 && isCsD (seatsOf ks).length d2)) := rfl
        rw [e0] at q
        refine ⟨_, rfl, a, _, rfl, SqT.of ha, rfl, _, _, rfl, _, _, rfl, _, _, rfl, rfl, ?_⟩
        refine ⟨_, rfl, v0, d0, rfl, t0, trivial, fun H1 e1 => ⟨_, rfl, ?_⟩⟩
        cases hn : isNumD d0 with
        | false =>
          refine iteT ?_
          have q' := q H1 e1
          have e2 : isPlD sv.length d0 = false := by
            cases d0 with
            | int i =>
              have : ¬ (0 ≤ i) := by
                intro z
                simp [isNumD, z] at hn
              exact decide_eq_false fun z => this z.1
            | _ => rfl
          rw [e2, Bool.false_and] at q'
          exact q'
        | true =>
          refine iteF ?_
          obtain ⟨i, rfl, hi0⟩ := num_int hn
          cases t0
          obtain ⟨dx, lx0, sx, kd, st, sp, ys, at_, s1, s2, s3, s4, s5, s6, s7, s8, g⟩ := hS.up e1
          obtain ⟨dxs, tt, u, zs, us, k1, _⟩ := id s3
          refine ⟨_, rfl, _, rfl, p, S, dx, _, _, rfl, s1, SL.cl, SL.nS, sf_s _ _ _ _ _, sx, dxs, _, rfl, k1, sx, sv, rfl, s3, _, _, rfl, rfl, _, rfl, ?_⟩
          refine ite2 (fun g1 => ?_) (fun g1 => ?_)
          · have g1' := of_decide_eq_true g1
            have q' := q H1 e1
            have e2 : isPlD sv.length (.int i) = false := decide_eq_false fun z => by omega
            rw [e2, Bool.false_and] at q'
            exact q'
          · have g1' := of_decide_eq_false (Bool.eq_false_iff.mpr g1)
            have e2 : isPlD sv.length (.int i) = true := decide_eq_true ⟨hi0, by omega⟩
            rw [e2, Bool.true_and] at q
            obtain ⟨dxl, ln, lb, lsp, l1, _⟩ := id s2
            refine ⟨_, rfl, p, S, dx, _, _, rfl, s1, SL.cl, SL.nL, sf_l _ _ _ _ _, lx0, dxl, _, rfl, l1, lf_no _ _ _ (by decide +kernel) (by decide +kernel) (by decide +kernel), _, rfl, lx0, ns, bs, v1, d1, rfl, s2, t1.up e1, fun H2 e2 => ⟨_, rfl, ?_⟩⟩
            refine ite2 (fun g2 => ?_) (fun g2 => ?_)
            · rw [g2, Bool.true_and] at q
              refine ⟨_, rfl, _, rfl, p, S, dx, _, _, rfl, e2 _ _ s1, SL.cl, SL.nT, sf_t _ _ _ _ _, st, _, rfl, .inr (SqT.of (e2 _ _ s6)), ?_⟩
              have ly : ys.length = (seatsOf ks).length := by rw [s7.len, List.length_map]
              rw [ly]
              exact ⟨v2, d2, _, rfl, t2.up (e1.trans e2), h20, fun H3 e3 => q H3 ((e1.trans e2).trans e3)⟩
            · have q' := q H2 (e1.trans e2)
              rw [Bool.eq_false_iff.mpr g2, Bool.false_and] at q'
              exact q'
      · have z : (!decide (V.int (xs.length : Int) = V.int 3)) = true := by
          rw [decide_eq_false]
          · rfl
          · intro y
            injection y with y
            omega
        rw [z]
        refine iteT ?_
        have q' := q H (Ext.refl H)
        rw [isStd_len hlen] at q'
        exact q'
/-! ### is_above -/
def spAbove (S C CP : Addr) : Sp := fun vs H Q _ => ∃ (p : Addr) (v u : V) (a b : Std), vs = [.ref p, v, u] ∧ Sys H ∧ Dq H v (stgD a) ∧ Dq H u (stgD b) ∧ a.ct.length ≤ 60 ∧ ∀ H', Ext H H' → Q (.bl (aboveB a b)) H'
abbrev nAb : List Str := ["self", "one", "other", "more", "less"]
theorem sc_above : FnScope nAb ["self", "one", "other"] (defScope (cS 11)) := ⟨rfl, rfl, rfl, by decide +kernel, rfl, by decide +kernel, by decide +kernel⟩
theorem ok_above {f : Addr} {fd : FuncData} (F : Fun K "is_above" "System.is_above" (cS 11) f fd) (T : BT mg) (LL : LT K mg C) :
    FnOk P w K mg base CX0 1 f fd ["self", "one", "other"] (spAbove S C CP) := by
  refine F.ok sc_above (fun vs H Q E h => ?_) (fun cdv A outer s H vs Q E hr h => ?_)
  · obtain ⟨p, v, u, a, b, rfl, _⟩ := h
    rfl
  · obtain ⟨p, v, u, a, b, rfl, hSy, hv, hu, h60, q⟩ := h
    refine ⟨_, (pss_one (ps_ret (pe_and (pe_cmpR (op_eqQ hr) (pe_slice sl_tupA (pv 1) po_none (po_some pe_int)) (pe_slice sl_tupA (pv 2) po_none (po_some pe_int)) (nomark _))
      (pe_one (pe_callB (cr_all rfl) (by rfl) T.n_all (by decide +kernel) (pa_cons (pe_lc (own := [("more", 3), ("less", 4)]) (g := gTup K 2 (gCons (gName 3) (gCons (gName 4) gNil))) (tt := tYes) rfl sc_above.nd (pi_zipA (by rfl) LL.n_zip (pa_cons (pe_ix ix_tup (pv 1) pe_int (fun _ _ => rfl)) (pa_cons (pe_ix ix_tup (pv 2) pe_int (fun _ _ => rfl)) pa_nil))) (blkOk_by (N := nAb) (sc := defScope (cS 11)) (by decide +kernel)) (fun _ _ _ _ _ => (pg_tup (by rfl) (pgs_cons (pg_name (i := 3) sc_above.nd rfl (.inl rfl)) (pgs_cons (pg_name (i := 4) sc_above.nd rfl (.inl rfl)) pgs_nil)))) (fun _ _ _ _ _ => pts_nil) (fun _ _ _ _ _ => pe_cmpR op_ge (pv 3) (pv 4) (nomark _))) pa_nil)))))), ?_⟩
    obtain ⟨x1, x2, x3, xs, rfl, v1, v2, v3, v4⟩ := stg_inv hv
    obtain ⟨y1, y2, y3, ys, rfl, u1, u2, u3, u4⟩ := stg_inv hu
    refine ⟨_, rfl, _, rfl, sl_any v1 fun p1 H1 e1 h1 => ?_⟩
    rw [show cutV [V.int (a.pl : Int), V.ref x2, V.ref x3] none (some 2) = [V.int (a.pl : Int), V.ref x2] from cut_take _ 2] at h1
    refine ⟨_, rfl, _, rfl, sl_any (e1 _ _ u1) fun p2 H2 e2 h2 => ?_⟩
    rw [show cutV [V.int (b.pl : Int), V.ref y2, V.ref y3] none (some 2) = [V.int (b.pl : Int), V.ref y2] from cut_take _ 2] at h2
    have e12 := e1.trans e2
    refine ⟨headD a, headD b, sysUp hSy e12, .tup (e2 _ _ h1) (.cons (.int _) (.cons (.tup (e12 _ _ v2) (DqAll.up e12 v3)) .nil)), .tup h2 (.cons (.int _) (.cons (.tup (e12 _ _ u2) (DqAll.up e12 u3)) .nil)), sh_head a, sh_head b, _, rfl, ?_⟩
    refine ite2 (fun g => ?_) (fun g => ?_)
    · refine ⟨_, rfl, x1, _, _, _, rfl, rfl, SqT.of (e12 _ _ v1), rfl, _, rfl, y1, _, _, _, rfl, rfl, SqT.of (e12 _ _ u1), rfl, x3, y3, _, _, rfl, .inr ⟨SqT.of (e12 _ _ v4), SqT.of (e12 _ _ u4), fun D hD => ?_⟩⟩
      refine lc1_acc (walk_zipT (n := min a.ct.length b.ct.length) (by rw [List.length_map, List.length_map])) (fun i zs _ => zs = ((List.range i).map fun k => decide (b.ct.getD k 0 ≤ a.ct.getD k 0)).map V.bl ∧ i ≤ 60) (fun _ _ _ _ _ h => h) ⟨rfl, by decide⟩ hD (fun i zs _ h => by rw [h.1, List.length_map, List.length_map, List.length_range]; exact Nat.lt_of_le_of_lt h.2 (by decide)) (fun H' e => ⟨SqT.of (e _ _ (e12 _ _ v4)), SqT.of (e _ _ (e12 _ _ u4))⟩) ?_ ?_
      · rintro i x Hi H' zs hi e hy ⟨T', z1, z2, rfl, hT', rfl, g1, g2⟩ ⟨hp, _⟩ QY QN kY kN
        have hia : i < a.ct.length := by omega
        have hib : i < b.ct.length := by omega
        dsimp only at g1 g2
        rw [List.getElem?_map, List.getElem?_eq_getElem hia] at g1
        rw [List.getElem?_map, List.getElem?_eq_getElem hib] at g2
        cases g1
        cases g2
        have eT := Ext.new (o := .tup [.int (a.ct[i] : Int), .int (b.ct[i] : Int)]) hT'
        refine ⟨T', _, rfl, SqT.of upd_same, rfl, _, _, rfl, _, _, rfl, rfl, rfl, ?_⟩
        refine tyes ?_
        refine ⟨_, rfl, _, rfl, _, _, rfl, rfl, ?_⟩
        refine kY _ _ eT ⟨?_, by omega⟩
        rw [hp, List.range_succ, List.map_append, List.map_append]
        congr 1
        show [V.bl (decide ((b.ct[i] : Int) ≤ (a.ct[i] : Int)))] = [V.bl (decide (b.ct.getD i 0 ≤ a.ct.getD i 0))]
        have ea : a.ct.getD i 0 = a.ct[i] := by rw [List.getD_eq_getElem?_getD, List.getElem?_eq_getElem hia]; rfl
        have eb : b.ct.getD i 0 = b.ct[i] := by rw [List.getD_eq_getElem?_getD, List.getElem?_eq_getElem hib]; rfl
        rw [ea, eb]
        congr 2
        exact decide_eq_decide.mpr ⟨fun z => by omega, fun z => by omega⟩
      · rintro H4 zs e4 hy ⟨hp, _⟩
        refine ⟨D, (List.range (min a.ct.length b.ct.length)).map fun k => decide (b.ct.getD k 0 ≤ a.ct.getD k 0), rfl, SqL.of (by rw [hy, hp]), ?_⟩
        have ec : aboveB a b = ((List.range (min a.ct.length b.ct.length)).map fun k => decide (b.ct.getD k 0 ≤ a.ct.getD k 0)).all id := by
          unfold aboveB
          rw [g, Bool.true_and, List.all_map]
          rfl
        rw [← ec]
        exact q _ (e12.trans e4)
    · have q' := q H2 e12
      have ec : aboveB a b = false := by
        unfold aboveB
        rw [Bool.eq_false_iff.mpr g, Bool.false_and]
      rw [ec] at q'
      exact q'
end
end K28

set_option Elab.async false
set_option linter.all false
set_option maxRecDepth 100000
set_option maxHeartbeats 4000000
namespace K28
open PySem PySem.Spec PyProof.Rows L2 Ol RZ
open TL (tl)
/-! ### data, an object set aside -/
mutual
theorem Dq.fz {H : Hp} {k : Addr} {o : Obj} {u : HO} (hk : H k = some (.frz o u)) : ∀ {v : V} {d : PyData}, Dq H v d → Dq (del H k) v d
  | _, _, .non => .non
  | _, _, .bl b => .bl b
  | _, _, .int i => .int i
  | _, _, .str x => .str x
  | _, _, .lst h t => .lst (by rw [del_ne (fun z => by rw [z, hk] at h; cases h)]; exact h) (DqAll.fz hk t)
  | _, _, .tup h t => .tup (by rw [del_ne (fun z => by rw [z, hk] at h; cases h)]; exact h) (DqAll.fz hk t)
  | _, _, .dct h t => .dct (by rw [del_ne (fun z => by rw [z, hk] at h; cases h)]; exact h) (DqAll.fz hk t)
theorem DqAll.fz {H : Hp} {k : Addr} {o : Obj} {u : HO} (hk : H k = some (.frz o u)) : ∀ {vs : List V} {ds : List PyData}, DqAll H vs ds → DqAll (del H k) vs ds
  | _, _, .nil => .nil
  | _, _, .cons h t => .cons (Dq.fz hk h) (DqAll.fz hk t)
end
theorem ProgAt.fz {C : Addr} {H : Hp} {k p : Addr} {o : Obj} {u : HO} {ps : List Place} (hk : H k = some (.frz o u)) : ProgAt C H p ps → ProgAt C (del H k) p ps
  | ⟨dx, t, v, xs, us, h1, h2, h3, h4, r⟩ => ⟨dx, t, v, xs, us, by rw [del_ne (fun z => by rw [z, hk] at h1; cases h1)]; exact h1, by rw [del_ne (fun z => by rw [z, hk] at h2; cases h2)]; exact h2, DqAll.fz hk h3, by rw [del_ne (fun z => by rw [z, hk] at h4; cases h4)]; exact h4, r⟩
theorem nd_arm (a : Arm) : Nd (armD a) := by
  obtain ⟨o, g⟩ := a
  cases o with
  | none => exact .tup (.cons (.str _) (.cons (.int _) .nil))
  | some p => exact .tup (.cons (.str _) (.cons (.str _) (.cons (.int _) .nil)))
theorem nd_place (p : Place) : Nd (placeD p) := .tup (.cons (.str _) (.cons (.tup (NdAll.of fun d hd => by
  obtain ⟨a, _, rfl⟩ := List.mem_map.mp hd
  exact nd_arm a)) .nil))
theorem nd_places (ps : List Place) : NdAll (ps.map placeD) := NdAll.of fun d hd => by
  obtain ⟨p, _, rfl⟩ := List.mem_map.mp hd
  exact nd_place p
/-- a list of places stands at a -/
def LPl (H : Hp) (a : Addr) (pl : List Place) : Prop := ∃ xs, H a = some (.lst xs) ∧ DqAll H xs (pl.map placeD)
theorem LPl.up {H H' : Hp} {a : Addr} {pl : List Place} (e : Ext H H') : LPl H a pl → LPl H' a pl
  | ⟨xs, h1, h2⟩ => ⟨xs, e _ _ h1, DqAll.up e h2⟩
theorem LPl.off {H : Hp} {a k : Addr} {kv : List (Key × V)} {pl : List Place} (hk : H k = some (.dK kv)) : LPl H a pl → LPl (del H k) a pl
  | ⟨xs, h1, h2⟩ => ⟨xs, by rw [del_ne (fun z => by rw [z, hk] at h1; cases h1)]; exact h1, DqAll.off hk h2 (nd_places pl)⟩
/-- what the law draws -/
structure GMdl (g : Int) (ps : List (Str × Int)) (sv : List Place) (kx : List Knd) : Prop where
  p1 : 1 ≤ ps.length
  p3 : ps.length ≤ 3
  nd : (ps.map (·.1)).Nodup
  nm : ∀ p ∈ ps, isNameS p.1 = true
  bd : ∀ p ∈ ps, 1 ≤ p.2 ∧ p.2 ≤ g
  s1 : 1 ≤ sv.length
  s5 : sv.length ≤ 5
  sg : ∀ q ∈ sv, GL sv.length (ps.map (·.1)) q
  k2 : kx.length ≤ 2
  kd : (kx.map (·.1)).Nodup
  kn : ∀ k ∈ kx, isNameS k.1 = true
  k1 : ∀ k ∈ kx, 1 ≤ k.2.length
  k5 : ∀ k ∈ kx, k.2.length ≤ 5
  kg : ∀ k ∈ kx, ∀ q ∈ k.2, GL k.2.length (ps.map (·.1)) q
theorem pls_of {n : Nat} {ns : List Str} {sv : List Place} (h1 : 1 ≤ sv.length) (h5 : sv.length ≤ 5) (h : ∀ q ∈ sv, GL sv.length ns q) : Pls sv :=
  ⟨fun z => by rw [z] at h1; exact absurd h1 (by decide), by omega, fun q hq => (h q hq).place⟩
theorem sub_of {n : Nat} {ns : List Str} {sv : List Place} (h : ∀ q ∈ sv, GL n ns q) : ∀ x ∈ lanesP sv, x ∈ ns := fun x hx => by
  unfold lanesP at hx
  obtain ⟨q, hq, hx⟩ := List.mem_flatMap.mp hx
  exact (h q hq).lanes x hx
abbrev kyB : Key := Sum.inr ("bounds" : Str)
abbrev kyS : Key := Sum.inr ("server" : Str)
abbrev kyK : Key := Sum.inr ("kinds" : Str)
theorem mk_bs : ¬ (kyB = kyS) := fun z => absurd (Sum.inr.inj z) (by decide +kernel)
theorem mk_bk : ¬ (kyB = kyK) := fun z => absurd (Sum.inr.inj z) (by decide +kernel)
theorem mk_sk : ¬ (kyS = kyK) := fun z => absurd (Sum.inr.inj z) (by decide +kernel)
abbrev mdK (db sl dk : Addr) : List (Key × V) := [(kyB, .ref db), (kyS, .ref sl), (kyK, .ref dk)]
theorem mdK_b (db sl dk : Addr) : valV (mdK db sl dk) kyB = some (.ref db) := valV_pos rfl
theorem mdK_s (db sl dk : Addr) : valV (mdK db sl dk) kyS = some (.ref sl) := (valV_neg mk_bs).trans (valV_pos rfl)
theorem mdK_k (db sl dk : Addr) : valV (mdK db sl dk) kyK = some (.ref dk) := (valV_neg mk_bk).trans ((valV_neg mk_sk).trans (valV_pos rfl))
theorem mdK_new (db sl dk : Addr) : mergeK [] (mdK db sl dk) = mdK db sl dk := by
  show putK (putK (putK [] kyB (.ref db)) kyS (.ref sl)) kyK (.ref dk) = _
  rw [putK_new (kvs := []) (k := kyB) rfl]
  rw [putK_new (kvs := [] ++ [(kyB, V.ref db)]) (k := kyS) ((valV_neg mk_bs).trans rfl)]
  rw [putK_new (kvs := [] ++ [(kyB, V.ref db)] ++ [(kyS, V.ref sl)]) (k := kyK) ((valV_neg mk_bk).trans ((valV_neg mk_sk).trans rfl))]
  rfl
/-- a model stands at m -/
def MdlAt (H : Hp) (m : Addr) (ps : List (Str × Int)) (sv : List Place) (kx : List Knd) : Prop :=
  ∃ db sl dk at_, H m = some (.dK (mdK db sl dk)) ∧ H db = some (.dK (kvI ps)) ∧ LPl H sl sv ∧ H dk = some (.dK (kdA kx at_)) ∧ (∀ k ∈ kx, LPl H (at_ k.1) k.2) ∧ m ≠ dk ∧ db ≠ dk
theorem MdlAt.up {H H' : Hp} {m : Addr} {ps : List (Str × Int)} {sv : List Place} {kx : List Knd} (e : Ext H H') : MdlAt H m ps sv kx → MdlAt H' m ps sv kx
  | ⟨db, sl, dk, at_, h1, h2, h3, h4, h5, r⟩ => ⟨db, sl, dk, at_, e _ _ h1, e _ _ h2, h3.up e, e _ _ h4, fun k hk => (h5 k hk).up e, r⟩
section
variable {P : Program} {w : World} {K : PySem.W.Frag} {mg : Str → Option Value} {base : Heap} {C CP S : Addr}
/-! ### _law_model -/
def spModel : Sp := fun vs H Q _ => ∃ (a : Addr) (m g kn pl : Int), vs = [.ref a, .int m, .int g, .int kn, .int pl] ∧ Sys H ∧ Bag H a ∧ 1 ≤ m ∧ m ≤ 3 ∧ 1 ≤ g ∧ g ≤ 3 ∧ 0 ≤ kn ∧ kn ≤ 2 ∧ 1 ≤ pl ∧ pl ≤ 4 ∧
  ∀ (r : Addr) (H' : Hp) (ps : List (Str × Int)) (sv : List Place) (kx : List Knd), H r = none → Ext H H' → MdlAt H' r ps sv kx → GMdl g ps sv kx → Q (.ref r) H'
abbrev s__law_model : Stmt := (topS 46)
theorem sc__law_model : FnScope ["_law_bag_here", "_law_many", "_law_greatest", "_law_kinds", "_law_places", "_law_names_here", "_law_folk", "_law_found", "_law_bounds_here", "_law_server", "_law_kind"] ["_law_bag_here", "_law_many", "_law_greatest", "_law_kinds", "_law_places"] (defScope s__law_model) := ⟨rfl, rfl, rfl, by decide +kernel, rfl, by decide +kernel, by decide +kernel⟩
theorem ok_model {f : Addr} {fd : FuncData} (F : Fun K "_law_model" "_law_model" s__law_model f fd) (T : BT mg)
    (CT : Ca P w K mg base 1 "_law_take" ["_law_bag_here", "_law_many"] spTake) (CN : Ca P w K mg base 2 "_law_names" ["_law_bag_here", "_law_many"] spNames)
    (CBo : Ca P w K mg base 2 "_law_bounds" ["_law_bag_here", "_law_names_here", "_law_greatest"] spBounds) (CPr : Ca P w K mg base 3 "_law_program" ["_law_bag_here", "_law_names_here", "_law_places"] spLProg) :
    FnOk P w K mg base CX0 4 f fd ["_law_bag_here", "_law_many", "_law_greatest", "_law_kinds", "_law_places"] spModel := by
  refine F.ok sc__law_model (fun vs H Q E h => ?_) (fun cdv A outer s H vs Q E hr h => ?_)
  · obtain ⟨a, m, g, kn, pl, rfl, _⟩ := h
    rfl
  · obtain ⟨a, m, g, kn, pl, rfl, hSy, hB, m1, m3, g1, g3, kn0, kn2, pl1, pl4, q⟩ := h
    refine ⟨_, (pss_cons (ps_set (i := 5) sc__law_model.nd rfl (.inl rfl) (pe_ca CN (hr.mono (by decide)) (by rfl) (pa_cons (pv 0) (pa_cons (pv 1) pa_nil))))
    (pss_cons (ps_par (i := 6) (j := 7) rfl sc__law_model.nd rfl rfl (by decide) rfl rfl (pa_cons (pe_slice sl_list (pe_ca CN (hr.mono (by decide)) (by rfl) (pa_cons (pv 0) (pa_cons pe_int pa_nil))) po_none (po_some (pv 3))) (pa_cons pe_dnewK pa_nil)) (by rfl))
    (pss_cons (ps_set (i := 8) sc__law_model.nd rfl (.inl rfl) (pe_ca CBo (hr.mono (by decide)) (by rfl) (pa_cons (pv 0) (pa_cons (pv 5) (pa_cons (pv 2) pa_nil)))))
    (pss_cons (ps_set (i := 9) sc__law_model.nd rfl (.inl rfl) (pe_ca CPr (hr.mono (by decide)) (by rfl) (pa_cons (pv 0) (pa_cons (pv 5) (pa_cons (pe_op op_add pe_int (pe_ca CT (hr.mono (by decide)) (by rfl) (pa_cons (pv 0) (pa_cons (pv 4) pa_nil)))) pa_nil)))))
    (pss_cons (ps_for PassesOwn.never rfl (pi_list (pv 6)) (pg_name (i := 10) sc__law_model.nd rfl (.inl rfl))
      (pss_one (ps_dput (hu_of hr) (pv 7) (pv 10) (pe_ca CPr (hr.mono (by decide)) (by rfl) (pa_cons (pv 0) (pa_cons (pv 5) (pa_cons (pe_op op_add pe_int (pe_ca CT (hr.mono (by decide)) (by rfl) (pa_cons (pv 0) (pa_cons (pv 4) pa_nil)))) pa_nil)))) rfl)))
    (pss_one (ps_ret (pe_disp (pps_cons pe_str (pv 8) (pps_cons pe_str (pv 9) (pps_cons pe_str (pv 7) pps_nil))) (by rfl) (by rfl) (fun z => by cases z) (by decide))))))))), ?_⟩
    refine ⟨_, rfl, _, rfl, a, m, rfl, hB, m1, by omega, fun n1 ys H1 e1 hn1 hys hN => ?_⟩
    obtain ⟨z, rfl⟩ : ∃ j : Nat, m = (j : Int) := ⟨m.toNat, by omega⟩
    rw [Int.toNat_natCast] at hN
    have hl := hN.len
    -- the kinds' names
    refine ⟨_, rfl, a, 2, rfl, hB.up e1, by decide, by decide, fun n2 zs H2 e2 hn2 hzs hN2 => ?_⟩
    refine ⟨_, rfl, _, rfl, n2, _, rfl, SqL.of hzs, fun n3 hn3 => fun d hd => ?_⟩
    obtain ⟨kk, rfl⟩ : ∃ j : Nat, kn = (j : Int) := ⟨kn.toNat, by omega⟩
    rw [cut_take, ← List.map_take] at hd ⊢
    have hl2 : zs.length = 2 := hN2.len
    have hfl : (zs.take kk).length ≤ 2 := by rw [List.length_take]; omega
    have hfn : (zs.take kk).Nodup := hN2.nd.sublist (List.take_sublist ..)
    have hfo : ∀ x ∈ zs.take kk, isNameS x = true := fun x hx => hN2.ok x (List.mem_of_mem_take hx)
    generalize zs.take kk = fk at hfl hfn hfo hd ⊢
    have e3 := Ext.new (o := .lst (fk.map V.str)) hn3
    have h3 := upd_same (H := H2) (a := n3) (o := HO.lst (fk.map V.str))
    have hys3 := e3 _ _ (e2 _ _ hys)
    have e03 := (e1.trans e2).trans e3
    generalize upd H2 n3 (.lst (fk.map V.str)) = H3 at e03 h3 hys3 hd ⊢
    have hd0 : H d = none := e03.free hd
    have e4 := Ext.new (o := .dK []) hd
    have h4d := upd_same (H := H3) (a := d) (o := HO.dK [])
    have h4n := e4 _ _ h3
    have hys4 := e4 _ _ hys3
    have e04 := e03.trans e4
    generalize upd H3 d (.dK []) = H4 at e04 h4d h4n hys4 ⊢
    clear e4
    -- the bounds
    refine ⟨_, _, rfl, _, rfl, _, rfl, _, rfl, a, n1, ys, g, rfl, g1, g3, hB.up e04, hys4, hN.nd, by omega, fun db H5 ps hdb e5 h5b hps hbd => ?_⟩
    have ndb : db ≠ d := fun z => by rw [z, h4d] at hdb; cases hdb
    -- the server
    refine ⟨_, rfl, _, rfl, _, rfl, _, rfl, a, pl, rfl, hB.up (e04.trans e5), by omega, by omega, fun r r0 r1 => ?_⟩
    obtain ⟨j, rfl⟩ : ∃ j : Nat, r = (j : Int) := ⟨r.toNat, by omega⟩
    refine ⟨_, _, rfl, rfl, a, n1, ys, 1 + j, by rw [Int.natCast_add]; rfl, sysUp hSy (e04.trans e5), hB.up (e04.trans e5), e5 _ _ hys4, by omega, by omega, hN.ok, by omega, by omega, fun sl xs sv H6 hsl e6 h6s h6z hsn hsg => ?_⟩
    have e46 := e5.trans e6
    have h6d := e46 _ _ h4d
    have h6b := e6 _ _ h5b
    have h6n := e46 _ _ h4n
    have hys6 := e46 _ _ hys4
    have e06 := e04.trans e46
    have e0d : Ext H (del H6 d) := ext_to e06 hd0
    have nsl : sl ≠ d := fun z => by rw [z, h6d] at h6s; cases h6s
    have n1d : n1 ≠ d := fun z => by rw [z, h6d] at hys6; cases hys6
    have n3d : n3 ≠ d := fun z => by rw [z, h6d] at h6n; cases h6n
    have L6 : LPl (del H6 d) sl sv := LPl.off h6d ⟨xs, h6s, DqAll.up del_ext h6z⟩
    have ml : (fk.map V.str).length = fk.length := List.length_map ..
    rw [← hsn] at hsg
    -- the kinds
    refine ⟨_, rfl, n3, rfl, ⟨_, SqL.of h6n⟩, ?_⟩
    refine for_list (xs := fk.map V.str) (fun i σ H' => ∃ v10 kx at_, σ = [some (.ref a), some (.int z), some (.int g), some (.int kk), some (.int pl), some (.ref n1), some (.ref n3), some (.ref d), some (.ref db), some (.ref sl), v10] ∧ Ext (del H6 d) H' ∧ H' d = some (.dK (kdA kx at_)) ∧
        kx.map (·.1) = fk.take i ∧ ∀ k ∈ kx, LPl (del H' d) (at_ k.1) k.2 ∧ 1 ≤ k.2.length ∧ k.2.length ≤ 5 ∧ ∀ q ∈ k.2, GL k.2.length ys q)
      ⟨none, [], fun _ => 0, rfl, del_ext, h6d, rfl, fun k hk => by cases hk⟩ (fun i σ H' _ ⟨_, _, _, _, e, _⟩ => SqL.of (e _ _ ((del_ne n3d).trans h6n))) ?_ ?_
    · rintro i x σ H7 hx ⟨v10, kx, at_, rfl, e7, h7d, hkx, hk⟩
      have hi : i < fk.length := by have := (List.getElem?_eq_some_iff.mp hx).1; rw [ml] at this; exact this
      rw [List.getElem?_map, List.getElem?_eq_getElem hi] at hx
      cases hx
      have e07 := e0d.trans e7
      have hni : fk[i] ∉ kx.map (·.1) := fun z => by
        rw [hkx] at z
        obtain ⟨j, hj, ej⟩ := List.getElem_of_mem z
        rw [List.length_take] at hj
        rw [List.getElem_take] at ej
        exact List.pairwise_iff_getElem.mp hfn j i (by omega) hi (by omega) ej
      have hkl : kx.length ≤ 2 := by have := congrArg List.length hkx; rw [List.length_map, List.length_take] at this; omega
      have hys7 := e7 _ _ ((del_ne n1d).trans hys6)
      refine ⟨_, rfl, _, rfl, _, rfl, _, rfl, a, pl, rfl, hB.up e07, by omega, by omega, fun r r0 r1 => ?_⟩
      obtain ⟨j, rfl⟩ : ∃ j : Nat, r = (j : Int) := ⟨r.toNat, by omega⟩
      refine ⟨_, _, rfl, rfl, a, n1, ys, 1 + j, by rw [Int.natCast_add]; rfl, sysUp hSy e07, hB.up e07, hys7, by omega, by omega, hN.ok, by omega, by omega, fun fl zs' kp H8 hfl e8 h8s h8z hkn hkg => ?_⟩
      have h8d := e8 _ _ h7d
      have L8 : LPl (del H8 d) fl kp := LPl.off h8d ⟨zs', h8s, DqAll.up del_ext h8z⟩
      rw [← hkn] at hkg
      refine ⟨_, rfl, _, rfl, d, _, rfl, DPut.k (k := Sum.inr fk[i]) h8d (by rw [kdA_len]; exact Nat.lt_of_le_of_lt hkl (by decide)), ?_⟩
      refine ⟨_, kx ++ [(fk[i], kp)], fun y => if y = fk[i] then fl else at_ y, rfl, Ext.mut (e7.trans e8) del_same, ?_, ?_, ?_⟩
      · rw [upd_same, putK_new (by rw [kdA_val, if_neg hni])]
        have e1 : kdA kx (fun y => if y = fk[i] then fl else at_ y) = kdA kx at_ := List.map_congr_left fun k hk => by
          show ((Sum.inr k.1, V.ref (if k.1 = fk[i] then fl else at_ k.1)) : Key × V) = _
          rw [if_neg (fun y => hni (by rw [← y]; exact List.mem_map_of_mem hk))]
        show _ = some (HO.dK (kdA (kx ++ [(fk[i], kp)]) _))
        unfold kdA at e1 ⊢
        rw [List.map_append, e1]
        simp
      · rw [List.map_append, hkx, List.take_add_one, List.getElem?_eq_getElem hi]
        rfl
      · intro k hk'
        rw [del_upd]
        rcases List.mem_append.mp hk' with hk' | hk'
        · obtain ⟨b1, b2⟩ := hk k hk'
          have ne : ¬ k.1 = fk[i] := fun y => hni (by rw [← y]; exact List.mem_map_of_mem hk')
          dsimp only
          rw [if_neg ne]
          exact ⟨b1.up (ext_del e8), b2⟩
        · rw [List.mem_singleton.mp hk']
          dsimp only
          rw [if_pos rfl]
          exact ⟨L8, by omega, by omega, hkg⟩
    · rintro σ H7 ⟨v10, kx, at_, rfl, e7, h7d, hkx, hk⟩
      rw [ml, List.take_length] at hkx
      have e07 := e0d.trans e7
      intro r hr'
      refine ⟨_, rfl, _, rfl, _, rfl, upd_same, mdK db sl d, rfl, by show 3 ≤ 15; decide, ?_⟩
      rw [mdK_new, upd_upd]
      have er := Ext.new (o := .dK (mdK db sl d)) hr'
      have nrd : r ≠ d := fun z => by rw [z, h7d] at hr'; cases hr'
      refine q r _ ps sv kx (e07.free hr') (e07.trans er) ⟨db, sl, d, at_, upd_same, er _ _ (e7 _ _ ((del_ne ndb).trans h6b)), (L6.up e7).up er, er _ _ h7d, fun k hk' => ((hk k hk').1.up del_ext).up er, nrd, ndb⟩ ?_
      have pl0 : ps.length = ys.length := by have := congrArg List.length hps; rwa [List.length_map] at this
      refine ⟨by omega, by omega, by rw [hps]; exact hN.nd, fun p hp => hN.ok _ (by rw [← hps]; exact List.mem_map_of_mem hp), hbd, by omega, by omega, by rw [hps]; exact hsg, ?_, by rw [hkx]; exact hfn, fun k hk' => hfo _ (by rw [← hkx]; exact List.mem_map_of_mem hk'), fun k hk' => (hk k hk').2.1, fun k hk' => (hk k hk').2.2.1, fun k hk' => by rw [hps]; exact (hk k hk').2.2.2⟩
      have := congrArg List.length hkx
      rw [List.length_map] at this
      omega
end
end K28

set_option Elab.async false
set_option linter.all false
set_option maxRecDepth 100000
set_option maxHeartbeats 4000000
namespace K28
open PySem PySem.Spec PyProof.Rows L2 Ol RZ
open TL (tl)
theorem DGet.r {H : Hp} {a : Addr} {kvs : List (Key × V)} (k : Key) (r : Rd H a (.dK kvs)) : DGet H a (kV k) (valV kvs k) := .inl ⟨kvs, k, r, rfl, rfl⟩
theorem get_b {H : Hp} {m db sl dk : Addr} (h : H m = some (.dK (mdK db sl dk))) : DGet H m (.str "bounds") (some (.ref db)) := by
  have z := DGet.k (k := kyB) h
  rw [mdK_b] at z
  exact z
theorem get_s {H : Hp} {m db sl dk : Addr} (h : H m = some (.dK (mdK db sl dk))) : DGet H m (.str "server") (some (.ref sl)) := by
  have z := DGet.k (k := kyS) h
  rw [mdK_s] at z
  exact z
theorem get_k {H : Hp} {m db sl dk : Addr} (h : H m = some (.dK (mdK db sl dk))) : DGet H m (.str "kinds") (some (.ref dk)) := by
  have z := DGet.k (k := kyK) h
  rw [mdK_k] at z
  exact z
theorem get_at {H : Hp} {d : Addr} {kx : List Knd} {at_ : Str → Addr} {x : Str} (r : Rd H d (.dK (kdA kx at_))) (h : x ∈ kx.map (·.1)) : DGet H d (.str x) (some (.ref (at_ x))) := by
  have z := DGet.r (.inr x) r
  rw [kdA_val, if_pos h] at z
  exact z
theorem ProgAt.off {C : Addr} {H : Hp} {k p : Addr} {kv : List (Key × V)} {ps : List Place} (hk : H k = some (.dK kv)) : ProgAt C H p ps → ProgAt C (del H k) p ps
  | ⟨dx, t, v, xs, us, h1, h2, h3, h4, r⟩ => ⟨dx, t, v, xs, us, by rw [del_ne (fun z => by rw [z, hk] at h1; cases h1)]; exact h1, by rw [del_ne (fun z => by rw [z, hk] at h2; cases h2)]; exact h2, DqAll.off hk h3 (nd_places ps), by rw [del_ne (fun z => by rw [z, hk] at h4; cases h4)]; exact h4, r⟩
theorem del_up {H : Hp} {k : Addr} {o : HO} : Ext (del H k) (upd H k o) := fun b u z => by
  have c : b ≠ k := fun c => by rw [c, del_same] at z; cases z
  rw [del_ne c] at z
  rw [upd_ne c]
  exact z
section
variable {P : Program} {w : World} {K : PySem.W.Frag} {mg : Str → Option Value} {base : Heap} {C CP S : Addr}
structure MkL (P : Program) (w : World) (K : PySem.W.Frag) (mg : Str → Option Value) (base : Heap) (C : Addr) : Prop where
  has : ∃ (f : Addr) (fd : FuncData), FnOk P w K mg base CX0 4 f fd ["self", "bounds"] (spInit C) ∧ Mk K C f ∧ Binds K fd ["self", "bounds"] []
structure MkP (P : Program) (w : World) (K : PySem.W.Frag) (mg : Str → Option Value) (base : Heap) (C : Addr) : Prop where
  has : ∃ (f : Addr) (fd : FuncData), FnOk P w K mg base CX0 7 f fd ["self", "places"] (spProg C) ∧ Mk K C f ∧ Binds K fd ["self", "places"] []
structure MkS (P : Program) (w : World) (K : PySem.W.Frag) (mg : Str → Option Value) (base : Heap) (S C CP : Addr) : Prop where
  has : ∃ (f : Addr) (fd : FuncData), FnOk P w K mg base CX0 4 f fd ["self", "lanes", "server", "kinds"] (spSys S C CP) ∧ Mk K S f ∧ Binds K fd ["self", "lanes", "server", "kinds"] []
/-! ### _law_made -/
def spMade (S C CP : Addr) : Sp := fun vs H Q _ => ∃ (m : Addr) (g : Int) (ps : List (Str × Int)) (sv : List Place) (kx : List Knd), vs = [.ref m] ∧ MdlAt H m ps sv kx ∧ GMdl g ps sv kx ∧
  ∀ (p : Addr) (H' : Hp) (ns : List Str) (ks : List Knd), H p = none → Ext H H' → ns.Perm (ps.map (·.1)) → sortedS ns = true → ks.Perm kx → SysAt S C CP H' p ns (ns.map (bdOf ps)) sv ks → Q (.ref p) H'
abbrev s__law_made : Stmt := (topS 47)
theorem sc__law_made : FnScope ["_law_model_here", "_law_kinds", "_law_kind"] ["_law_model_here"] (defScope s__law_made) := ⟨rfl, rfl, rfl, by decide +kernel, rfl, by decide +kernel, by decide +kernel⟩
theorem ok_made {f : Addr} {fd : FuncData} (F : Fun K "_law_made" "_law_made" s__law_made f fd) (T : BT mg) (SL : ST K mg S) (LL : LT K mg C) (LP : PT K mg CP)
    (ML : MkL P w K mg base C) (MP : MkP P w K mg base CP) (MS : MkS P w K mg base S C CP) :
    FnOk P w K mg base CX0 9 f fd ["_law_model_here"] (spMade S C CP) := by
  obtain ⟨fL, fdL, FL, mkL, bL⟩ := ML.has
  obtain ⟨fP, fdP, FP, mkP, bP⟩ := MP.has
  obtain ⟨fS, fdS, FS, mkS, bS⟩ := MS.has
  refine F.ok sc__law_made (fun vs H Q E h => ?_) (fun cdv A outer s H vs Q E hr h => ?_)
  · obtain ⟨m, g, ps, sv, kx, rfl, _⟩ := h
    rfl
  · obtain ⟨m, g, ps, sv, kx, rfl, hM, hG, q⟩ := h
    refine ⟨_, (pss_cons (ps_set (i := 1) sc__law_made.nd rfl (.inl rfl) pe_dnewK)
    (pss_cons (ps_lock (ps_for PassesOwn.never rfl (pi_keys (pe_dget (hu_of hr) (pv 0) pe_str (fun _ _ => rfl))) (pg_name (i := 2) sc__law_made.nd rfl (.inl rfl))
      (pss_one (ps_dput (hu_of hr) (pv 1) (pv 2) (pe_make mkP FP (hr.mono (by decide)) (by rfl) LP.gC bP .nil pass0 (pa_cons (pe_dget (hu_of hr) (pe_dget (hu_of hr) (pv 0) pe_str (fun _ _ => rfl)) (pv 2) (fun _ _ => rfl)) pa_nil)) rfl))))
    (pss_one (ps_ret (pe_make mkS FS (hr.mono (by decide)) (by rfl) SL.gS bS .nil pass0 (pa_cons (pe_make mkL FL (hr.mono (by decide)) (by rfl) LL.gC bL .nil pass0 (pa_cons (pe_dget (hu_of hr) (pv 0) pe_str (fun _ _ => rfl)) pa_nil)) (pa_cons (pe_make mkP FP (hr.mono (by decide)) (by rfl) LP.gC bP .nil pass0 (pa_cons (pe_dget (hu_of hr) (pv 0) pe_str (fun _ _ => rfl)) pa_nil)) (pa_cons (pv 1) pa_nil)))))))), ?_⟩
    obtain ⟨db, sl, dk, at_, hm, hdb, hsl, hdk, hkl, nmk, nbk⟩ := id hM
    intro d hd
    have e1 := Ext.new (o := .dK []) hd
    have ndk : d ≠ dk := fun z => by rw [z, hdk] at hd; cases hd
    refine ⟨dk, _, e1 _ _ hdk, trivial, fun od => ?_⟩
    have hL0 : ∀ b o, H b = some o → b ≠ dk → (upd (upd H d (.dK [])) dk (.frz od (.dK (kdA kx at_)))) b = some o := fun b o z n => by rw [upd_ne n]; exact e1 _ _ z
    have h0k := upd_same (H := upd H d (.dK [])) (a := dk) (o := HO.frz od (.dK (kdA kx at_)))
    have h0d : (upd (upd H d (.dK [])) dk (.frz od (.dK (kdA kx at_)))) d = some (.dK []) := by rw [upd_ne ndk]; exact upd_same
    have eH0 : Ext (del H dk) (upd (upd H d (.dK [])) dk (.frz od (.dK (kdA kx at_)))) := fun b o z => by
      have c : b ≠ dk := fun c => by rw [c, del_same] at z; cases z
      rw [del_ne c] at z
      exact hL0 b o z c
    generalize upd (upd H d (.dK [])) dk (.frz od (.dK (kdA kx at_))) = H0 at hL0 h0k h0d eH0 ⊢
    have nmd : m ≠ d := fun z => by rw [z, hd] at hm; cases hm
    have kk : kx.length ≤ 2 := hG.k2
    have eHd : Ext (del H dk) (del H0 d) := ext_to eH0 (by rw [del_ne ndk]; exact hd)
    refine ⟨_, rfl, m, _, rfl, get_k (hL0 _ _ hm nmk), dk, od, rfl, .inl ⟨_, h0k, ?_⟩⟩
    refine for_it (walk_keys (kvs := kdA kx at_)) (fun i σ H' => ∃ v2 at2, σ = [some (.ref m), some (.ref d), v2] ∧ Ext (del H0 d) H' ∧ H' d = some (.dK (kdA (kx.take i) at2)) ∧ ∀ k ∈ kx.take i, ProgAt CP (del (del H' d) dk) (at2 k.1) k.2)
      ⟨none, fun _ => 0, rfl, del_ext, h0d, fun k hk => by cases hk⟩ (fun i σ H' _ ⟨_, _, _, e, _⟩ => e _ _ ((del_ne (Ne.symm ndk)).trans h0k)) ?_ ?_
    · rintro i x σ H2 H3 hi ⟨v2, at2, rfl, e2, h2d, h2p⟩ ⟨rfl, ky, vv, hkv, rfl⟩
      rw [kdA_len] at hi
      rw [kdA_at hi] at hkv
      cases hkv
      have h2k := e2 _ _ ((del_ne (Ne.symm ndk)).trans h0k)
      have h2m := e2 _ _ ((del_ne nmd).trans (hL0 _ _ hm nmk))
      have mem : kx[i] ∈ kx := List.getElem_mem hi
      have L2 := ((hkl _ mem).off hdk).up (eHd.trans e2)
      obtain ⟨xs, l1, l2⟩ := L2
      have hni : kx[i].1 ∉ (kx.take i).map (·.1) := fun z => by
        rw [List.map_take] at z
        obtain ⟨j, hj, ej⟩ := List.getElem_of_mem z
        rw [List.length_take, List.length_map] at hj
        rw [List.getElem_take, List.getElem_map] at ej
        have := List.pairwise_iff_getElem.mp hG.kd j i (by rw [List.length_map]; omega) (by rw [List.length_map]; exact hi) (by omega)
        rw [List.getElem_map, List.getElem_map] at this
        exact this ej
      refine ⟨_, rfl, m, _, rfl, get_k h2m, _, rfl, dk, _, rfl, get_at (.inr ⟨od, h2k⟩) (List.mem_map_of_mem mem), fun px dx npx ndx nex => ?_⟩
      have eo := Ext.new (o := .own px) ndx
      have pls := pls_of (n := 0) (hG.k1 _ mem) (hG.k5 _ mem) (hG.kg _ mem)
      refine ⟨H3, px, dx, at_ kx[i].1, xs, kx[i].2, rfl, npx, Ext.mut eo npx, upd_same, l1, l2, pls, fun H4 e4 hP => ⟨rfl, ?_⟩⟩
      have h4d := e4 _ _ h2d
      have h4k := e4 _ _ h2k
      refine ⟨_, rfl, _, rfl, d, _, rfl, DPut.k (k := Sum.inr kx[i].1) h4d (by rw [kdA_len, List.length_take]; exact Nat.lt_of_le_of_lt (show _ ≤ 2 by omega) (by decide)), ?_⟩
      have P4 : ProgAt CP (del (del H4 d) dk) px kx[i].2 := ProgAt.fz (o := od) (u := .dK (kdA kx at_)) ((del_ne (Ne.symm ndk)).trans h4k) (ProgAt.off h4d hP)
      refine ⟨_, fun y => if y = kx[i].1 then px else at2 y, rfl, Ext.mut (e2.trans e4) del_same, ?_, ?_⟩
      · rw [upd_same, putK_new (by rw [kdA_val, if_neg hni]), List.take_add_one, List.getElem?_eq_getElem hi, Option.toList_some]
        have e1 : kdA (kx.take i) (fun y => if y = kx[i].1 then px else at2 y) = kdA (kx.take i) at2 := List.map_congr_left fun k hk => by
          show ((Sum.inr k.1, V.ref (if k.1 = kx[i].1 then px else at2 k.1)) : Key × V) = _
          rw [if_neg (fun y => hni (by rw [← y]; exact List.mem_map_of_mem hk))]
        unfold kdA at e1 ⊢
        rw [List.map_append, e1]
        simp
      · intro k hk
        rw [del_upd]
        rw [List.take_add_one, List.getElem?_eq_getElem hi, Option.toList_some] at hk
        rcases List.mem_append.mp hk with hk | hk
        · have ne : ¬ k.1 = kx[i].1 := fun y => hni (by rw [← y]; exact List.mem_map_of_mem hk)
          dsimp only
          rw [if_neg ne]
          exact (h2p k hk).up (ext_del (ext_del e4))
        · rw [List.mem_singleton.mp hk]
          dsimp only
          rw [if_pos rfl]
          exact P4
    rintro σ H2 ⟨v2, at2, rfl, e2, h2d, h2p⟩
    rw [kdA_len, List.take_length] at h2d h2p
    have h2k := e2 _ _ ((del_ne (Ne.symm ndk)).trans h0k)
    refine ⟨h2k, ?_⟩
    have eF : Ext H (upd H2 dk (.dK (kdA kx at_))) := fun b o z => by
      by_cases c : b = dk
      · rw [c] at z ⊢
        rw [upd_same, ← hdk, z]
      · rw [upd_ne c]
        exact e2 _ _ ((del_ne (fun y => by rw [y, hd] at z; cases z)).trans (hL0 _ _ z c))
    have h3d : (upd H2 dk (.dK (kdA kx at_))) d = some (.dK (kdA kx at2)) := by rw [upd_ne ndk]; exact h2d
    have h3p : ∀ k ∈ kx, ProgAt CP (upd H2 dk (.dK (kdA kx at_))) (at2 k.1) k.2 := fun k hk => by
      have z := (h2p k hk).up (ext_del (D := dk) (del_ext (H := H2) (D := d)))
      exact z.up del_up
    generalize upd H2 dk (.dK (kdA kx at_)) = H3 at eF h3d h3p ⊢
    have hm3 := eF _ _ hm
    -- the lanes
    refine ⟨_, rfl, m, _, rfl, get_b hm3, fun lx dx nlx ndx nex => ?_⟩
    have eo := Ext.new (o := .own lx) ndx
    have pne : ps ≠ [] := fun z => by have := hG.p1; rw [z] at this; exact absurd this (by decide)
    refine ⟨H3, lx, dx, db, ps, rfl, nlx, Ext.mut eo nlx, upd_same, eF _ _ hdb, pne, Nat.le_trans hG.p3 (by decide), fun z hz => ⟨hG.nm z hz, (hG.bd z hz).1⟩, hG.nd, fun H4 ns e4 hperm hso hL => ⟨rfl, ?_⟩⟩
    -- the server
    refine ⟨_, rfl, m, _, rfl, get_s (e4 _ _ hm3), fun sx dx2 nsx ndx2 nex2 => ?_⟩
    have eo2 := Ext.new (o := .own sx) ndx2
    obtain ⟨xs, l1, l2⟩ := (hsl.up eF).up e4
    refine ⟨H4, sx, dx2, sl, xs, sv, rfl, nsx, Ext.mut eo2 nsx, upd_same, l1, l2, pls_of (n := 0) hG.s1 hG.s5 hG.sg, fun H5 e5 hP => ⟨rfl, ?_⟩⟩
    have e35 := e4.trans e5
    refine ⟨_, rfl, fun p dx3 np ndx3 nex3 => ?_⟩
    have eo3 := Ext.new (o := .own p) ndx3
    have sub : ∀ x, x ∈ ps.map (·.1) → x ∈ ns := fun x hx => hperm.mem_iff.mpr hx
    refine ⟨H5, p, dx3, lx, sx, d, ns, ns.map (bdOf ps), sv, kx, at2, rfl, np, Ext.mut eo3 np, upd_same, hL.up e5, hP, e35 _ _ h3d, by omega, hG.kd, fun k hk => ⟨hG.kn k hk, (h3p k hk).up e35, fun x hx => sub _ (sub_of (hG.kg k hk) x hx)⟩, fun x hx => sub _ (sub_of hG.sg x hx), fun H6 ks e6 hkp hS => ⟨rfl, ?_⟩⟩
    exact q p H6 ns ks ((eF.trans e35).free np) ((eF.trans e35).trans e6) hperm hso hkp hS
end
end K28

set_option Elab.async false
set_option linter.all false
set_option maxRecDepth 100000
set_option maxHeartbeats 4000000
namespace K28
open PySem PySem.Spec PyProof.Rows L2 Ol RZ
open TL (tl)
theorem ks_map {kx ks : List Knd} (hd : (kx.map (·.1)).Nodup) (hp : ks.Perm kx) : ks = sortedK kx (ks.map (·.1)) := by
  unfold sortedK
  rw [List.map_map]
  have : ks.map ((fun x => ((x, plOf kx x) : Knd)) ∘ fun k => k.1) = ks.map id := List.map_congr_left fun k hk => by
    show (k.1, plOf kx k.1) = k
    rw [plOf_mem hd (hp.mem_iff.mp hk)]
  rw [this, List.map_id]
theorem ks_one {kx k1 k2 : List Knd} (hd : (kx.map (·.1)).Nodup) (p1 : k1.Perm kx) (p2 : k2.Perm kx) (s1 : sortedS (k1.map (·.1)) = true) (s2 : sortedS (k2.map (·.1)) = true) : k1 = k2 := by
  rw [ks_map hd p1, ks_map hd p2, sorted_one s1 s2 ((p1.map _).trans (p2.map _).symm)]
section
variable {P : Program} {w : World} {K : PySem.W.Frag} {mg : Str → Option Value} {base : Heap} {C CP S : Addr}
/-! ### _law_seats -/
def spSeats : Sp := fun vs H Q _ => ∃ (m : Addr) (g : Int) (ps : List (Str × Int)) (sv : List Place) (kx ks : List Knd), vs = [.ref m] ∧ MdlAt H m ps sv kx ∧ GMdl g ps sv kx ∧ ks.Perm kx ∧ sortedS (ks.map (·.1)) = true ∧
  ∀ (l : Addr) (ys : List V) (H' : Hp), H l = none → Ext H H' → H' l = some (.lst ys) → DqAll (del H' l) ys ((seatsOf ks).map seatD) → Q (.ref l) H'
abbrev s__law_seats : Stmt := (topS 51)
theorem sc__law_seats : FnScope ["_law_model_here", "_law_found", "_law_kind", "_law_at"] ["_law_model_here"] (defScope s__law_seats) := ⟨rfl, rfl, rfl, by decide +kernel, rfl, by decide +kernel, by decide +kernel⟩
abbrev nSts : List Str := ["_law_model_here", "_law_found", "_law_kind", "_law_at"]
theorem ok_seats {f : Addr} {fd : FuncData} (F : Fun K "_law_seats" "_law_seats" s__law_seats f fd) (T : BT mg) :
    FnOk P w K mg base CX0 1 f fd ["_law_model_here"] spSeats := by
  refine F.ok sc__law_seats (fun vs H Q E h => ?_) (fun cdv A outer s H vs Q E hr h => ?_)
  · obtain ⟨m, g, ps, sv, kx, ks, rfl, _⟩ := h
    rfl
  · obtain ⟨m, g, ps, sv, kx, ks, rfl, hM, hG, hkp, hks, q⟩ := h
    refine ⟨_, (pss_cons (ps_set (i := 1) sc__law_seats.nd rfl (.inl rfl) (pe_lst pa_nil))
    (pss_cons (ps_for PassesOwn.never rfl (pi_list (pe_callB (call_sortedD rfl) (by rfl) T.n_sorted (by decide +kernel) (pa_cons (pe_dget (hu_of hr) (pv 0) pe_str (fun _ _ => rfl)) pa_nil))) (pg_name (i := 2) sc__law_seats.nd rfl (.inr rfl))
      (pss_one (ps_aug (i := 1) sc__law_seats.nd rfl (.inl rfl) (pe_lc (own := [("_law_at", 3)]) (g := gName 3) (tt := tYes) rfl sc__law_seats.nd (pi_range2 (by rfl) T.n_range (pa_cons pe_int (pa_cons (pe_callB call_len_seq (by rfl) T.n_len (by decide +kernel) (pa_cons (pe_dget (hu_of hr) (pe_dget (hu_of hr) (pv 0) pe_str (fun _ _ => rfl)) (pv 2) (fun _ _ => rfl)) pa_nil)) pa_nil))) (blkOk_by (N := ["_law_model_here", "_law_found", "_law_kind", "_law_at"]) (sc := defScope s__law_seats) (by decide +kernel)) (fun _ _ _ _ _ => (pg_name (i := 3) sc__law_seats.nd rfl (.inl rfl))) (fun _ _ _ _ _ => pts_nil) (fun _ _ _ _ _ => (pe_tup (pa_cons (pv 2) (pa_cons (pv 3) pa_nil))))) iop_ext)))
    (pss_one (ps_ret (pv 1))))), ?_⟩
    obtain ⟨db, sl, dk, at_, hm, hdb, hsl, hdk, hkl, nmk, nbk⟩ := id hM
    refine ⟨by show 0 ≤ sizeLine; decide, fun l hl => ?_⟩
    have e1 := Ext.new (o := .lst []) hl
    have h1l := upd_same (H := H) (a := l) (o := HO.lst [])
    generalize upd H l (.lst []) = H1 at e1 h1l ⊢
    have kk := hG.k2
    have lks : ks.length = kx.length := hkp.length_eq
    have knd : (ks.map (·.1)).Nodup := (hkp.map _).nodup_iff.mpr hG.kd
    refine ⟨_, rfl, m, _, rfl, get_k (e1 _ _ hm), dk, _, kx.map (·.1), rfl, Rd.of (e1 _ _ hdk), kdA_keys kx at_, by rw [List.length_map]; omega, fun us l3 hperm hso hl3 => ?_⟩
    obtain rfl : us = ks.map (·.1) := sorted_one hso hks (hperm.trans (hkp.map _).symm)
    have e2 := Ext.new (o := .lst ((ks.map (·.1)).map V.str)) hl3
    have k2 := upd_same (H := H1) (a := l3) (o := HO.lst ((ks.map (·.1)).map V.str))
    have h2l := e2 _ _ h1l
    have e02 := e1.trans e2
    generalize upd H1 l3 (.lst ((ks.map (·.1)).map V.str)) = H2 at e02 k2 h2l ⊢
    have eHd : Ext H (del H2 l) := ext_to e02 hl
    have n3l : l3 ≠ l := fun z => by rw [z, h1l] at hl3; cases hl3
    have ml : ((ks.map (·.1)).map V.str).length = ks.length := by rw [List.length_map, List.length_map]
    refine ⟨l3, rfl, ⟨_, SqL.of k2⟩, ?_⟩
    refine for_list (xs := (ks.map (·.1)).map V.str) (fun i σ H' => ∃ v2 ys, σ = [some (.ref m), some (.ref l), v2, none] ∧ Ext (del H2 l) H' ∧ H' l = some (.lst ys) ∧ DqAll (del H' l) ys ((seatsOf (ks.take i)).map seatD) ∧ ys.length ≤ 5 * i)
      ⟨none, [], rfl, del_ext, h2l, .nil, Nat.le_refl _⟩ (fun i σ H' _ ⟨_, _, _, e, _⟩ => SqL.of (e _ _ ((del_ne n3l).trans k2))) ?_ ?_
    · rintro i x σ H3 hx ⟨v2, ys, rfl, e3, h3l, h3z, hyl⟩
      have hi : i < ks.length := by have := (List.getElem?_eq_some_iff.mp hx).1; rw [ml] at this; exact this
      rw [List.getElem?_map, List.getElem?_map, List.getElem?_eq_getElem hi] at hx
      cases hx
      have e03 := eHd.trans e3
      have mem : ks[i] ∈ ks := List.getElem_mem hi
      have memx : ks[i] ∈ kx := hkp.mem_iff.mp mem
      obtain ⟨xs, l1, l2⟩ := (hkl _ memx).up e03
      have lx : xs.length = ks[i].2.length := by rw [l2.len, List.length_map]
      have b1 := hG.k1 _ memx
      have b5 := hG.k5 _ memx
      refine ⟨_, rfl, _, rfl, m, _, rfl, get_k (e03 _ _ hm), _, rfl, dk, _, rfl, get_at (.inl (e03 _ _ hdk)) (List.mem_map_of_mem memx), at_ ks[i].1, _, rfl, .inl (SqL.of l1), 1, (xs.length : Int), rfl, ⟨by decide, by decide, by omega, by omega⟩, fun D hD => ?_⟩
      have nDl : D ≠ l := fun z => by rw [z, h3l] at hD; cases hD
      refine lc1_acc (walk_range (lo := 1) (n := ((xs.length : Int) - 1).toNat)) (fun j zs Hd => DqAll (del Hd l) zs (((List.range j).map fun t => ((ks[i].1, t + 1) : Str × Nat)).map seatD) ∧ j ≤ 5) (fun _ _ _ _ e ⟨h, h2⟩ => ⟨DqAll.up (ext_del e) h, h2⟩) ⟨.nil, by decide⟩ hD
        (fun j zs _ ⟨h, h2⟩ => by rw [h.len, List.length_map, List.length_map, List.length_range]; exact Nat.lt_of_le_of_lt h2 (by decide)) (fun _ _ => trivial) ?_ ?_
      · rintro j y Ha Hb zs hj ea hya ⟨rfl, rfl⟩ ⟨hz, _⟩ QY QN kY kN
        refine ⟨rfl, ?_⟩
        refine tyes ?_
        refine ⟨_, rfl, _, rfl, by show 2 ≤ sizeLine; decide, fun t ht => ?_⟩
        have et := Ext.new (o := .tup [.str ks[i].1, .int (1 + (j : Int))]) ht
        have n1 : t ≠ l := fun z => by rw [z, ea _ _ h3l] at ht; cases ht
        have n2 : t ≠ D := fun z => by rw [z, hya] at ht; cases ht
        refine kY _ _ et ⟨?_, by omega⟩
        have es := seat_step [] (fun t => ((ks[i].1, t + 1) : Str × Nat)) j
        rw [List.nil_append, List.nil_append] at es
        rw [es]
        refine dq_app (DqAll.up (ext_del (ext_del et)) hz) (.cons ?_ .nil)
        show Dq _ _ (.tuple [.str ks[i].1, .int ((j + 1 : Nat) : Int)])
        have ej : (1 + (j : Int)) = ((j + 1 : Nat) : Int) := by omega
        rw [← ej]
        exact .tup (by rw [del_ne n1, del_ne n2]; exact upd_same) (.cons (.str _) (.cons (.int _) .nil))
      · rintro H4 zs e4 h4D ⟨hz, _⟩
        have h4l := e4 _ _ h3l
        have lz : zs.length ≤ 5 := by
          rw [hz.len, List.length_map, List.length_map, List.length_range]
          omega
        have ez : ((xs.length : Int) - 1).toNat = ks[i].2.length - 1 := by omega
        rw [ez] at hz
        have i2 : i ≤ 2 := by omega
        refine ⟨l, D, ys, zs, rfl, rfl, h4l, h4D, Nat.le_trans (show _ ≤ 60 by omega) (by decide), ?_⟩
        refine ⟨_, _, rfl, Ext.mut (e3.trans e4) del_same, upd_same, ?_, by rw [List.length_append]; omega⟩
        rw [del_upd, List.take_add_one, List.getElem?_eq_getElem hi, Option.toList_some, seats_snoc, List.map_append]
        exact dq_app (DqAll.up (ext_del e4) h3z) hz
    · rintro σ H3 ⟨v2, ys, rfl, e3, h3l, h3z, hyl⟩
      rw [ml, List.take_length] at h3z
      exact ⟨_, rfl, q l ys H3 hl (eHd.trans e3) h3l h3z⟩
end
end K28

set_option Elab.async false
set_option linter.all false
set_option maxRecDepth 100000
set_option maxHeartbeats 4000000
namespace Ol
open PySem PySem.Spec PyProof.Rows L2
/-- a list != [] -/
def rNeE (K : PySem.W.Frag) : R2 := fun x y H Q => ∃ a b xs, x = .ref a ∧ y = .ref b ∧ SqL K H a xs ∧ SqL K H b [] ∧ Q (.bl (!xs.isEmpty)) H
theorem op_neE {X : Cx} {k : Nat} (hr : Room k X.A) : OpR X (compareOp .NotEq) (rNeE X.K) := by
  intro pins s σ H x y v u Q I rx ry h
  obtain ⟨a, b, xs, rfl, rfl, h1, h2, q⟩ := h
  cases rx
  cases ry
  obtain ⟨its, r, pl, hz⟩ := I.list h1
  obtain ⟨its2, r2, pl2, hz2⟩ := I.list h2
  cases r2
  have hu := hr.units
  cases xs with
  | nil =>
    cases r
    exact SeqAt.RcNeAt.lists (e := fun _ => true) pl.isList pl2.isList rfl (by omega) (fun j h => absurd h (Nat.not_lt_zero j)) X.prog X.w _ _ ⟨.bl _, H, I, rfl, q⟩
  | cons x xs =>
    cases r
    exact SeqAt.RcNeAt.lists_lengths pl.isList pl2.isList rfl (by omega) X.prog X.w _ _ ⟨.bl _, H, I, rfl, q⟩
/-- a subscript of a list or of a tuple -/
def rIxA (K : PySem.W.Frag) : R2 := fun x y H Q => rIxL K x y H Q ∨ rIxT K x y H Q
theorem ix_any {X : Cx} : IxR X (rIxA X.K) := ix_list.or ix_tup
/-- a list or a tuple of these stands at a -/
def LT (H : Hp) (a : Addr) (xs : List V) : Prop := H a = some (.lst xs) ∨ H a = some (.tup xs)
theorem LT.up {H H' : Hp} {a : Addr} {xs : List V} (h : LT H a xs) (e : Ext H H') : LT H' a xs := h.imp (fun z => e _ _ z) (fun z => e _ _ z)
theorem LT.sq {K : PySem.W.Frag} {H : Hp} {a : Addr} {xs : List V} (h : LT H a xs) : SqL K H a xs ∨ SqT K H a xs := h.imp SqL.of SqT.of
theorem ixA {K : PySem.W.Frag} {H : Hp} {a : Addr} {xs : List V} {i : Int} {v : V} {Q : VK} (h : LT H a xs) (hi : atI xs i = some v) (q : Q v H) : rIxA K (.ref a) (.int i) H Q := by
  rcases h with h | h
  · exact .inl ⟨a, xs, i, v, rfl, rfl, SqL.of h, hi, q⟩
  · exact .inr ⟨a, xs, i, v, rfl, rfl, SqT.of h, hi, q⟩
/-- for over a list or a tuple -/
def iAny (K : PySem.W.Frag) (te : TE) : TI := fun σ H R => iList K te σ H R ∨ iTup K te σ H R
theorem pi_anyA {X : Cx} {tg l : Expr} {te : TE} (pe : PE X l te) : PI X tg l (iAny X.K te) := by
  constructor
  rintro pins s σ H R I (h | h)
  · exact (pi_list pe).run pins s σ H R I h
  · exact (pi_tup pe).run pins s σ H R I h
end Ol

set_option Elab.async false
set_option linter.all false
set_option maxRecDepth 100000
set_option maxHeartbeats 4000000
namespace Ol
open PySem PySem.Spec PyProof.Rows L2
/-- what stands behind a statement -/
theorem cutN {tf tg : TS} {D : Ends} {σ : L2.St} {H : Hp} (W : L2.St → Hp → Prop) (first : ∀ N : L2.St → Hp → Prop, (∀ σ' H', W σ' H' → N σ' H') → tf { D with nx := N } σ H) (rest : ∀ σ' H', W σ' H' → tg D σ' H') : tSeq tf tg D σ H :=
  first _ rest
/-- a list == [] -/
def rEqE (K : PySem.W.Frag) : R2 := fun x y H Q => ∃ a b xs, x = .ref a ∧ y = .ref b ∧ SqL K H a xs ∧ SqL K H b [] ∧ Q (.bl xs.isEmpty) H
theorem op_eqE {X : Cx} {k : Nat} (hr : Room k X.A) : OpR X (compareOp .Eq) (rEqE X.K) := by
  intro pins s σ H x y v u Q I rx ry h
  obtain ⟨a, b, xs, rfl, rfl, h1, h2, q⟩ := h
  cases rx
  cases ry
  obtain ⟨its, r, at_a, _⟩ := I.list h1
  obtain ⟨its2, r2, at_b, _⟩ := I.list h2
  cases r2
  have room := hr.units
  cases xs with
  | nil =>
    cases r
    exact SeqAt.eq_listAt (e := fun _ => true) at_a.isList at_b.isList rfl (by omega) (fun j less => absurd less (Nat.not_lt_zero j)) ⟨.bl _, H, I, rfl, q⟩
  | cons x xs =>
    cases r
    exact SeqAt.eq_list_lengthsAt at_a.isList at_b.isList rfl (by omega) ⟨.bl _, H, I, rfl, q⟩
end Ol

set_option Elab.async false
set_option linter.all false
set_option maxRecDepth 100000
set_option maxHeartbeats 4000000
namespace K28
open PySem PySem.Spec PyProof.Rows L2 Ol RZ
open TL (tl)
abbrev cV (ct : List Nat) : List V := ct.map fun n : Nat => V.int (n : Int)
theorem cV_get {ct : List Nat} {i : Nat} (h : i < ct.length) : (cV ct)[i]? = some (V.int (ct[i] : Int)) := by
  rw [List.getElem?_map, List.getElem?_eq_getElem h]
  rfl
theorem cV_dq {H : Hp} : ∀ ct : List Nat, DqAll H (cV ct) (cntL ct)
  | [] => .nil
  | n :: ct => .cons (.int _) (cV_dq ct)
theorem ixN_at {n j : Nat} (h : j < n) : ixN n (j : Int) = some j := by
  unfold ixN
  have h1 : (0 : Int) ≤ (j : Int) := by omega
  have h2 : (j : Int) < (n : Int) := by omega
  simp [h]
/-- a standing of a system -/
structure GStd (ns : List Str) (bs : Str → Int) (n m M : Nat) (s : Std) : Prop where
  pl : s.pl < n
  cs : ∃ st : Str → Nat × Bool, s.cs = ns.map st ∧ ∀ x ∈ ns, ((st x).1 : Int) ≤ bs x
  ct : s.ct.length = m
  cm : ∀ c ∈ s.ct, c ≤ M
theorem GMdl.bd3 {g : Int} {ps : List (Str × Int)} {sv : List Place} {kx : List Knd} (h : GMdl g ps sv kx) (g3 : g ≤ 3) {x : Str} (hx : x ∈ ps.map (·.1)) : 1 ≤ bdOf ps x ∧ bdOf ps x ≤ 3 := by
  obtain ⟨p, hp, e1, e2⟩ := bd_mem hx
  have := h.bd p hp
  omega
section
variable {P : Program} {w : World} {K : PySem.W.Frag} {mg : Str → Option Value} {base : Heap} {C CP S : Addr}
/-! ### _law_standing -/
def spStd : Sp := fun vs H Q _ => ∃ (a m : Addr) (g : Int) (ps : List (Str × Int)) (sv : List Place) (kx ks : List Knd) (ns : List Str), vs = [.ref a, .ref m] ∧ Bag H a ∧ MdlAt H m ps sv kx ∧ GMdl g ps sv kx ∧ g ≤ 3 ∧ ks.Perm kx ∧ sortedS (ks.map (·.1)) = true ∧
  ns.Perm (ps.map (·.1)) ∧ sortedS ns = true ∧ ∀ (v : V) (H' : Hp) (s : Std), Ext H H' → Dq H' v (stgD s) → GStd ns (bdOf ps) sv.length (seatsOf ks).length 200 s → Q v H'
abbrev s__law_standing : Stmt := (topS 52)
theorem sc__law_standing : FnScope ["_law_bag_here", "_law_model_here", "_law_counts", "_law_seat"] ["_law_bag_here", "_law_model_here"] (defScope s__law_standing) := ⟨rfl, rfl, rfl, by decide +kernel, rfl, by decide +kernel, by decide +kernel⟩
theorem ok_std {f : Addr} {fd : FuncData} (F : Fun K "_law_standing" "_law_standing" s__law_standing f fd) (T : BT mg)
    (CT : Ca P w K mg base 1 "_law_take" ["_law_bag_here", "_law_many"] spTake) (CSe : Ca P w K mg base 1 "_law_seats" ["_law_model_here"] spSeats) (CCt : Ca P w K mg base 3 "_law_content" ["_law_bag_here", "_law_bounds_here"] spLContent) :
    FnOk P w K mg base CX0 4 f fd ["_law_bag_here", "_law_model_here"] spStd := by
  refine F.ok sc__law_standing (fun vs H Q E h => ?_) (fun cdv A outer s H vs Q E hr h => ?_)
  · obtain ⟨a, m, g, ps, sv, kx, ks, ns, rfl, _⟩ := h
    rfl
  · obtain ⟨a, m, g, ps, sv, kx, ks, ns, rfl, hB, hM, hG, g3, hkp, hks, hperm, hso, q⟩ := h
    refine ⟨_, (pss_cons (ps_setLc (i := 2) (own := [("_law_seat", 3)]) (g := gName 3) (tt := tYes) rfl sc__law_standing.nd rfl rfl (sw_true rfl rfl rfl (by decide +kernel)) (pi_list (pe_ca CSe (hr.mono (by decide)) (by rfl) (pa_cons (pv 1) pa_nil))) (blkOk_by (N := ["_law_bag_here", "_law_model_here", "_law_counts", "_law_seat"]) (sc := defScope s__law_standing) (by decide +kernel)) (fun _ _ _ _ _ => (pg_name (i := 3) sc__law_standing.nd rfl (.inl rfl))) (fun _ _ _ _ _ => pts_nil) (fun _ _ _ _ _ => (pe_ca CT (hr.mono (by decide)) (by rfl) (pa_cons (pv 0) (pa_cons pe_int pa_nil)))))
    (pss_cons (ps_if (PW.pt (pw_and (pt_cmpR (op_neE hr) (pv 2) (pe_lst pa_nil) (nomark _)) (pw_and1 (pt_cmpR op_eq (pe_ca CT (hr.mono (by decide)) (by rfl) (pa_cons (pv 0) (pa_cons pe_int pa_nil))) pe_int (nomark _)))))
      (pss_one (ps_asg pe_int (pg_sub (pv 2) (pe_ca CT (hr.mono (by decide)) (by rfl) (pa_cons (pv 0) (pa_cons (pe_callB call_len_seq (by rfl) T.n_len (by decide +kernel) (pa_cons (pv 2) pa_nil)) pa_nil))) set_list)))
      pss_nil)
    (pss_one (ps_ret (pe_tup (pa_cons (pe_ca CT (hr.mono (by decide)) (by rfl) (pa_cons (pv 0) (pa_cons (pe_callB call_len_seq (by rfl) T.n_len (by decide +kernel) (pa_cons (pe_dget (hu_of hr) (pv 1) pe_str (fun _ _ => rfl)) pa_nil)) pa_nil))) (pa_cons (pe_ca CCt (hr.mono (by decide)) (by rfl) (pa_cons (pv 0) (pa_cons (pe_dget (hu_of hr) (pv 1) pe_str (fun _ _ => rfl)) pa_nil))) (pa_cons (pe_callTy call_tuple_of (by rfl) T.n_tuple (by decide +kernel) (pa_cons (pv 2) pa_nil)) pa_nil)))))))), ?_⟩
    have kk := hG.k2
    have lks : ks.length = kx.length := hkp.length_eq
    have z60 := seats_len (ks := ks) fun k hk => Nat.le_trans (hG.k5 k (hkp.mem_iff.mp hk)) (by decide)
    have nnd : ns.Nodup := hperm.nodup_iff.mpr hG.nd
    refine ⟨_, rfl, m, g, ps, sv, kx, ks, rfl, hM, hG, hkp, hks, fun l ys H1 hl e1 h1 hz => ?_⟩
    have ly : ys.length = (seatsOf ks).length := by rw [hz.len, List.length_map]
    refine ⟨l, rfl, ⟨_, SqL.of h1⟩, fun D hD => ?_⟩
    have hD0 := e1.free hD
    refine lc1_acc (walk_list (xs := ys)) (fun i zs _ => ∃ ct : List Nat, zs = cV ct ∧ ct.length = i ∧ i ≤ 15 ∧ ∀ c ∈ ct, c ≤ 200) (fun _ _ _ _ _ h => h) ⟨[], rfl, rfl, by decide, fun c hc => by cases hc⟩ hD
      (fun i zs _ ⟨ct, h, h2, h3, _⟩ => by rw [h, List.length_map]; exact Nat.lt_of_le_of_lt (show _ ≤ 15 by omega) (by decide)) (fun H' e => SqL.of (e _ _ h1)) ?_ ?_
    · rintro i x Hi H' zs hi e hy ⟨rfl, hxi⟩ ⟨ct, rfl, c1, c2, c3⟩ QY QN kY kN
      refine ⟨rfl, ?_⟩
      refine tyes ?_
      refine ⟨_, rfl, a, 4, rfl, hB.up (e1.trans e), by decide, by decide, fun r r0 r1 => ?_⟩
      obtain ⟨j, rfl⟩ : ∃ j : Nat, r = (j : Int) := ⟨r.toNat, by omega⟩
      refine kY _ _ (Ext.refl _) ⟨ct ++ [j], (List.map_append (l₁ := ct) (l₂ := [j])).symm, by rw [List.length_append, c1]; rfl, by omega, fun c hc => ?_⟩
      rcases List.mem_append.mp hc with hc | hc
      · exact c3 c hc
      · rw [List.mem_singleton.mp hc]; omega
    rintro H2 zs e2 h2D ⟨ct, rfl, c1, _, c3⟩
    rw [ly] at c1
    have e02 := e1.trans e2
    have eHd : Ext H (del H2 D) := ext_to e02 hD0
    dsimp only [gName]
    refine cutN (fun σ' H' => ∃ ct : List Nat, σ' = [some (.ref a), some (.ref m), some (.ref D), none] ∧ Ext (del H2 D) H' ∧ H' D = some (.lst (cV ct)) ∧ ct.length = (seatsOf ks).length ∧ ∀ c ∈ ct, c ≤ 200) (fun W hW => ?_) ?_
    · refine ⟨_, rfl, by show 0 ≤ sizeLine; decide, fun p hp => ?_⟩
      have e3 := Ext.new (o := .lst []) hp
      have h3D := e3 _ _ h2D
      refine ⟨D, p, _, rfl, rfl, SqL.of h3D, SqL.of upd_same, _, rfl, ?_⟩
      have e23 : Ext (del H2 D) (upd H2 p (.lst [])) := del_ext.trans e3
      generalize upd H2 p (.lst []) = H3 at e23 h3D ⊢
      have e03 := eHd.trans e23
      cases ct with
      | nil =>
        refine iteF ?_
        exact hW _ _ ⟨[], rfl, e23, h3D, c1, c3⟩
      | cons n ct =>
        refine iteT ?_
        refine ⟨_, rfl, a, 6, rfl, hB.up e03, by decide, by decide, fun r r0 r1 => ⟨rfl, _, rfl, ?_⟩⟩
        refine ite2 (fun _ => ?_) (fun _ => ?_)
        · refine ⟨_, rfl, _, rfl, _, rfl, D, _, rfl, .inl (SqL.of h3D), a, _, rfl, hB.up e03, by rw [List.length_map]; simp, by rw [List.length_map, c1]; omega, fun r r0 r1 => ?_⟩
          obtain ⟨j, rfl⟩ : ∃ j : Nat, r = (j : Int) := ⟨r.toNat, by omega⟩
          rw [List.length_map] at r1
          refine ⟨D, _, _, j, rfl, rfl, h3D, ixN_at (by rw [List.length_map]; omega), ?_⟩
          refine hW _ _ ⟨(n :: ct).set j 200, rfl, Ext.mut e23 del_same, ?_, by rw [List.length_set]; exact c1, fun c hc => ?_⟩
          · rw [upd_same]
            exact congrArg (fun z => some (HO.lst z)) (List.map_set (f := fun n : Nat => V.int (n : Int)) (l := n :: ct) (i := j) (a := 200)).symm
          · rcases List.mem_or_eq_of_mem_set hc with hc | hc
            · exact c3 c hc
            · rw [hc]; decide
        · exact hW _ _ ⟨_, rfl, e23, h3D, c1, c3⟩
    · rintro σ' H3 ⟨ct, rfl, e3, h3D, c1, c3⟩
      have e03 := eHd.trans e3
      obtain ⟨db, sl, dk, at_, hm, hdb, ⟨xs, l1, l2⟩, hdk, hkl, nmk, nbk⟩ := hM.up e03
      have lx : xs.length = sv.length := by rw [l2.len, List.length_map]
      have s1 := hG.s1
      have s5 := hG.s5
      refine ⟨_, rfl, _, rfl, m, _, rfl, get_s hm, sl, _, rfl, .inl (SqL.of l1), a, _, rfl, hB.up e03, by omega, by omega, fun r r0 r1 => ?_⟩
      obtain ⟨j, rfl⟩ : ∃ j : Nat, r = (j : Int) := ⟨r.toNat, by omega⟩
      refine ⟨_, rfl, _, rfl, m, _, rfl, get_b hm, a, db, ps, ns, rfl, hB.up e03, hdb, hG.p3, hperm, nnd, hso, fun x hx => hG.bd3 g3 (hperm.mem_iff.mp hx), fun v H4 st e4 hv hst => ?_⟩
      refine ⟨_, rfl, D, _, rfl, .inl ⟨SqL.of (e4 _ _ h3D), fun t ht => ?_⟩⟩
      have et := Ext.new (o := .tup (cV ct)) ht
      refine ⟨by show 3 ≤ sizeLine; decide, fun t2 ht2 => ?_⟩
      have et2 := Ext.new (o := .tup [.int (j : Int), v, .ref t]) ht2
      have e34 := e4.trans (et.trans et2)
      refine q _ _ ⟨j, ns.map st, ct⟩ (e03.trans e34) (.tup upd_same (.cons (.int _) (.cons (hv.up (et.trans et2)) (.cons (.tup (et2 _ _ upd_same) (cV_dq ct)) .nil)))) ⟨?_, ⟨st, rfl, hst⟩, c1, c3⟩
      show j < sv.length
      omega
end
end K28

set_option Elab.async false
set_option linter.all false
set_option maxRecDepth 100000
set_option maxHeartbeats 4000000
namespace K28
open PySem PySem.Spec PyProof.Rows L2 Ol RZ
open TL (tl)
section
variable {P : Program} {w : World} {K : PySem.W.Frag} {mg : Str → Option Value} {base : Heap} {C CP S : Addr}
abbrev s__law_is_integer : Stmt := (topS 42)
theorem sc__law_is_integer : FnScope ["_law_thing"] ["_law_thing"] (defScope s__law_is_integer) := ⟨rfl, rfl, rfl, by decide +kernel, rfl, by decide +kernel, by decide +kernel⟩
theorem ok_li {f : Addr} {fd : FuncData} (F : Fun K "_law_is_integer" "_law_is_integer" s__law_is_integer f fd) (T : BT mg) :
    FnOk P w K mg base CX0 1 f fd ["_law_thing"] (spPred Any isIntD) := by
  refine F.ok sc__law_is_integer (fun vs H Q E h => ?_) (fun cdv A outer s H vs Q E hr h => ?_)
  · obtain ⟨v, d, rfl, _⟩ := h
    rfl
  · obtain ⟨v, d, rfl, hd, hz, q⟩ := h
    have q' := q H (Ext.refl H)
    rw [isIntD_eq] at q'
    refine ⟨_, (pss_one (ps_ret (pe_and (pe_callB call_isi (by rfl) T.n_isinstance (by decide +kernel) (pa_cons (pv 0) (pa_cons (pe_bltn (v := .ty "int") (by rfl) T.n_int (by decide +kernel) rfl) pa_nil))) (pe_one (pe_not (pe_callB call_isi (by rfl) T.n_isinstance (by decide +kernel) (pa_cons (pv 0) (pa_cons (pe_bltn (v := .ty "bool") (by rfl) T.n_bool (by decide +kernel) rfl) pa_nil)))))))), ?_⟩
    refine ⟨_, rfl, _, _, _, _, _, rfl, .ty "int", ty_of hd, ki_int d, _, rfl, ?_⟩
    refine ite2 (fun h => ?_) (fun h => ?_)
    · refine ⟨_, rfl, _, _, _, _, _, rfl, .ty "bool", ty_of hd, ki_bool d, _, rfl, ?_⟩
      rw [h, Bool.true_and] at q'
      exact q'
    · rw [Bool.eq_false_iff.mpr h, Bool.false_and] at q'
      exact q'
abbrev s__law_is_number : Stmt := (topS 53)
theorem sc__law_is_number : FnScope ["_law_thing"] ["_law_thing"] (defScope s__law_is_number) := ⟨rfl, rfl, rfl, by decide +kernel, rfl, by decide +kernel, by decide +kernel⟩
theorem ok_ln {f : Addr} {fd : FuncData} (F : Fun K "_law_is_number" "_law_is_number" s__law_is_number f fd) (CLi : Ca P w K mg base 1 "_law_is_integer" ["_law_thing"] (spPred Any isIntD)) :
    FnOk P w K mg base CX0 2 f fd ["_law_thing"] (spPred Any isNumD) := by
  refine F.ok sc__law_is_number (fun vs H Q E h => ?_) (fun cdv A outer s H vs Q E hr h => ?_)
  · obtain ⟨v, d, rfl, _⟩ := h
    rfl
  · obtain ⟨v, d, rfl, hd, hz, q⟩ := h
    refine ⟨_, (pss_one (ps_ret (pe_and (pe_ca CLi (hr.mono (by decide)) (by rfl) (pa_cons (pv 0) pa_nil)) (pe_one (pe_cmpR op_ge (pv 0) pe_int (nomark _)))))), ?_⟩
    refine ⟨_, rfl, v, d, rfl, hd, trivial, fun H1 e1 => ⟨_, rfl, ?_⟩⟩
    refine ite2 (fun h => ?_) (fun h => ?_)
    · obtain ⟨i, rfl, rfl⟩ := dq_int hd h
      refine ⟨_, rfl, _, _, rfl, rfl, ?_⟩
      exact q H1 e1
    · have e : isNumD d = false := by
        cases d with
        | int i => exact absurd rfl h
        | _ => rfl
      have q' := q H1 e1
      rw [e] at q'
      exact q'
/-! ### _law_is_standing -/
theorem num_pl {n : Nat} {d : PyData} (h : isNumD d = false) : isPlD n d = false := by
  cases d with
  | int i =>
    have : ¬ (0 ≤ i) := by
      intro z
      simp [isNumD, z] at h
    exact decide_eq_false fun z => this z.1
  | _ => rfl
theorem ct_false {bs : List Int} {ds : List PyData} {k : Nat} (hk : k < bs.length) (h : isStD (bs.getD k 0) (ds.getD k .none) = false) : isCtD bs (.tuple ds) = false := by
  show (decide (ds.length = bs.length) && (List.range bs.length).all fun i => isStD (bs.getD i 0) (ds.getD i .none)) = false
  rw [Bool.and_eq_false_iff]
  right
  rw [List.all_eq_false]
  exact ⟨k, List.mem_range.mpr hk, by rw [h]; decide⟩
theorem ct_true {bs : List Int} {ds : List PyData} (hl : ds.length = bs.length) (h : ∀ k < bs.length, isStD (bs.getD k 0) (ds.getD k .none) = true) : isCtD bs (.tuple ds) = true := by
  show (decide (ds.length = bs.length) && (List.range bs.length).all fun i => isStD (bs.getD i 0) (ds.getD i .none)) = true
  rw [decide_eq_true hl, Bool.true_and, List.all_eq_true]
  exact fun k hk => h k (List.mem_range.mp hk)
def spLIs : Sp := fun vs H Q _ => ∃ (m : Addr) (g : Int) (ps : List (Str × Int)) (sv : List Place) (kx ks : List Knd) (ns : List Str) (v : V) (d : PyData), vs = [.ref m, v] ∧ MdlAt H m ps sv kx ∧ GMdl g ps sv kx ∧ ks.Perm kx ∧ sortedS (ks.map (·.1)) = true ∧
  ns.Perm (ps.map (·.1)) ∧ sortedS ns = true ∧ Dq H v d ∧ ∀ (H' : Hp), Ext H H' → Q (.bl (isStdD (ns.map (bdOf ps)) sv.length (seatsOf ks).length d)) H'
abbrev s__law_is_standing : Stmt := (topS 54)
theorem sc__law_is_standing : FnScope ["_law_model_here", "_law_thing", "_law_names_here", "_law_seats_here", "_law_k", "_law_state_here", "_law_one"] ["_law_model_here", "_law_thing"] (defScope s__law_is_standing) := ⟨rfl, rfl, rfl, by decide +kernel, rfl, by decide +kernel, by decide +kernel⟩
theorem ok_lis {f : Addr} {fd : FuncData} (F : Fun K "_law_is_standing" "_law_is_standing" s__law_is_standing f fd) (T : BT mg)
    (CSe : Ca P w K mg base 1 "_law_seats" ["_law_model_here"] spSeats) (CLn : Ca P w K mg base 2 "_law_is_number" ["_law_thing"] (spPred Any isNumD)) :
    FnOk P w K mg base CX0 3 f fd ["_law_model_here", "_law_thing"] spLIs := by
  refine F.ok sc__law_is_standing (fun vs H Q E h => ?_) (fun cdv A outer s H vs Q E hr h => ?_)
  · obtain ⟨m, g, ps, sv, kx, ks, ns, v, d, rfl, _⟩ := h
    rfl
  · obtain ⟨m, g, ps, sv, kx, ks, ns, v, d, rfl, hM, hG, hkp, hks, hperm, hso, hd, q⟩ := h
    refine ⟨_, (pss_cons (ps_if (PW.pt (pw_or (pt_not (pt_val (pe_callB call_isi (by rfl) T.n_isinstance (by decide +kernel) (pa_cons (pv 1) (pa_cons (pe_bltn (v := .ty "tuple") (by rfl) T.n_tuple (by decide +kernel) rfl) pa_nil))))) (pw_or (pt_cmpR op_ne (pe_callB call_len_seq (by rfl) T.n_len (by decide +kernel) (pa_cons (pv 1) pa_nil)) pe_int (nomark _)) (pw_or1 (pt_not (pt_val (pe_ca CLn (hr.mono (by decide)) (by rfl) (pa_cons (pe_ix ix_tup (pv 1) pe_int (fun _ _ => rfl)) pa_nil))))))))
      (pss_one (ps_ret pe_bl))
      pss_nil)
    (pss_cons (ps_if (PW.pt (pw_or (pt_cmpR op_ge (pe_ix ix_tup (pv 1) pe_int (fun _ _ => rfl)) (pe_callB call_len_seq (by rfl) T.n_len (by decide +kernel) (pa_cons (pe_dget (hu_of hr) (pv 0) pe_str (fun _ _ => rfl)) pa_nil)) (nomark _)) (pw_or (pt_not (pt_val (pe_callB call_isi (by rfl) T.n_isinstance (by decide +kernel) (pa_cons (pe_ix ix_tup (pv 1) pe_int (fun _ _ => rfl)) (pa_cons (pe_bltn (v := .ty "tuple") (by rfl) T.n_tuple (by decide +kernel) rfl) pa_nil))))) (pw_or1 (pt_not (pt_val (pe_callB call_isi (by rfl) T.n_isinstance (by decide +kernel) (pa_cons (pe_ix ix_tup (pv 1) pe_int (fun _ _ => rfl)) (pa_cons (pe_bltn (v := .ty "tuple") (by rfl) T.n_tuple (by decide +kernel) rfl) pa_nil)))))))))
      (pss_one (ps_ret pe_bl))
      pss_nil)
    (pss_cons (ps_par (i := 2) (j := 3) rfl sc__law_is_standing.nd rfl rfl (by decide) rfl rfl (pa_cons (pe_callB (call_sortedD rfl) (by rfl) T.n_sorted (by decide +kernel) (pa_cons (pe_dget (hu_of hr) (pv 0) pe_str (fun _ _ => rfl)) pa_nil)) (pa_cons (pe_ca CSe (hr.mono (by decide)) (by rfl) (pa_cons (pv 0) pa_nil)) pa_nil)) (by rfl))
    (pss_cons (ps_if (PW.pt (pw_or (pt_cmpR op_ne (pe_callB call_len_seq (by rfl) T.n_len (by decide +kernel) (pa_cons (pe_ix ix_tup (pv 1) pe_int (fun _ _ => rfl)) pa_nil)) (pe_callB call_len_seq (by rfl) T.n_len (by decide +kernel) (pa_cons (pv 2) pa_nil)) (nomark _)) (pw_or1 (pt_cmpR op_ne (pe_callB call_len_seq (by rfl) T.n_len (by decide +kernel) (pa_cons (pe_ix ix_tup (pv 1) pe_int (fun _ _ => rfl)) pa_nil)) (pe_callB call_len_seq (by rfl) T.n_len (by decide +kernel) (pa_cons (pv 3) pa_nil)) (nomark _)))))
      (pss_one (ps_ret pe_bl))
      pss_nil)
    (pss_cons (ps_for PassesOwn.never rfl (pi_range1 (by rfl) T.n_range (pa_cons (pe_callB call_len_seq (by rfl) T.n_len (by decide +kernel) (pa_cons (pv 2) pa_nil)) pa_nil)) (pg_name (i := 4) sc__law_is_standing.nd rfl (.inl rfl))
      (pss_cons (ps_set (i := 5) sc__law_is_standing.nd rfl (.inl rfl) (pe_ix ix_tup (pe_ix ix_tup (pv 1) pe_int (fun _ _ => rfl)) (pv 4) (fun _ _ => rfl)))
      (pss_cons (ps_if (PW.pt (pw_or (pt_not (pt_val (pe_callB call_isi (by rfl) T.n_isinstance (by decide +kernel) (pa_cons (pv 5) (pa_cons (pe_bltn (v := .ty "tuple") (by rfl) T.n_tuple (by decide +kernel) rfl) pa_nil))))) (pw_or (pt_cmpR op_ne (pe_callB call_len_seq (by rfl) T.n_len (by decide +kernel) (pa_cons (pv 5) pa_nil)) pe_int (nomark _)) (pw_or1 (pt_not (pt_val (pe_callB call_isi (by rfl) T.n_isinstance (by decide +kernel) (pa_cons (pe_ix ix_tup (pv 5) pe_int (fun _ _ => rfl)) (pa_cons (pe_bltn (v := .ty "bool") (by rfl) T.n_bool (by decide +kernel) rfl) pa_nil)))))))))
        (pss_one (ps_ret pe_bl))
        pss_nil)
      (pss_one (ps_if (PW.pt (pw_or (pt_not (pt_val (pe_ca CLn (hr.mono (by decide)) (by rfl) (pa_cons (pe_ix ix_tup (pv 5) pe_int (fun _ _ => rfl)) pa_nil)))) (pw_or1 (pt_cmpR op_gt (pe_ix ix_tup (pv 5) pe_int (fun _ _ => rfl)) (pe_dget (hu_of hr) (pe_dget (hu_of hr) (pv 0) pe_str (fun _ _ => rfl)) (pe_ix ix_list (pv 2) (pv 4) (fun _ _ => rfl)) (fun _ _ => rfl)) (nomark _)))))
        (pss_one (ps_ret pe_bl))
        pss_nil)))))
    (pss_one (ps_ret (pe_cmpR (op_eqE hr) (pe_lc (own := [("_law_one", 6)]) (g := gName 6) (tt := _) rfl sc__law_is_standing.nd (pi_tup (pe_ix ix_tup (pv 1) pe_int (fun _ _ => rfl))) (blkOk_by (N := ["_law_model_here", "_law_thing", "_law_names_here", "_law_seats_here", "_law_k", "_law_state_here", "_law_one"]) (sc := defScope s__law_is_standing) (by decide +kernel)) (fun _ _ _ _ _ => (pg_name (i := 6) sc__law_is_standing.nd rfl (.inl rfl))) (fun _ _ _ _ _ => (pts_one (pt_not (pt_val (pe_ca CLn (hr.mono (by decide)) (by rfl) (pa_cons (pv 6) pa_nil)))))) (fun _ _ _ _ _ => (pv 6))) (pe_lst pa_nil) (nomark _))))))))), ?_⟩
    have kk := hG.k2
    have lks : ks.length = kx.length := hkp.length_eq
    have z60 := seats_len (ks := ks) fun k hk => Nat.le_trans (hG.k5 k (hkp.mem_iff.mp hk)) (by decide)
    have lns : ns.length = ps.length := by rw [hperm.length_eq, List.length_map]
    have p3 := hG.p3
    refine ⟨_, rfl, _, _, _, _, _, rfl, .ty "tuple", ty_of hd, ki_tuple d, _, rfl, ?_⟩
    cases hT : kT d with
    | false =>
      refine iteT ?_
      have q' := q H (Ext.refl H)
      rw [isStd_not hT] at q'
      exact q'
    | true =>
      refine iteF ?_
      obtain ⟨a, xs, ds, rfl, rfl, ha, t⟩ := dq_tup hd hT
      have lx := t.len
      refine ⟨_, rfl, a, _, rfl, .inr (SqT.of ha), rfl, _, rfl, ?_⟩
      by_cases hlen : ds.length = 3
      case neg =>
        have z : (!decide (V.int (xs.length : Int) = V.int 3)) = true := by
          rw [decide_eq_false]
          · rfl
          · intro y
            injection y with y
            omega
        rw [z]
        refine iteT ?_
        have q' := q H (Ext.refl H)
        rw [isStd_len hlen] at q'
        exact q'
      have z : (!decide (V.int (xs.length : Int) = V.int 3)) = false := by rw [lx, hlen]; decide +kernel
      rw [z]
      refine iteF ?_
      obtain ⟨v0, v1, v2, d0, d1, d2, rfl, rfl, t0, t1, t2⟩ := three_of t (by omega)
      have e0 : isStdD (ns.map (bdOf ps)) sv.length (seatsOf ks).length (.tuple [d0, d1, d2]) = (isPlD sv.length d0 && (isCtD (ns.map (bdOf ps)) d1 && isCsD (seatsOf ks).length d2)) := rfl
      rw [e0] at q
      refine ⟨_, rfl, a, _, _, _, rfl, rfl, SqT.of ha, rfl, v0, d0, rfl, t0, trivial, fun H1 e1 => ⟨_, rfl, ?_⟩⟩
      cases hn : isNumD d0 with
      | false =>
        refine iteT ?_
        have q' := q H1 e1
        rw [num_pl hn, Bool.false_and] at q'
        exact q'
      | true =>
        refine iteF ?_
        obtain ⟨i, rfl, hi0⟩ := num_int hn
        cases t0
        obtain ⟨db, sl, dk, at_, hm, hdb, ⟨zs, l1, l2⟩, hdk, hkl, nmk, nbk⟩ := hM.up e1
        have lz : zs.length = sv.length := by rw [l2.len, List.length_map]
        refine ⟨_, rfl, a, _, _, _, rfl, rfl, SqT.of (e1 _ _ ha), rfl, _, rfl, m, _, rfl, get_s hm, sl, _, rfl, .inl (SqL.of l1), _, _, rfl, rfl, _, rfl, ?_⟩
        refine ite2 (fun g1 => ?_) (fun g1 => ?_)
        · have g1' := of_decide_eq_true g1
          have q' := q H1 e1
          have e2 : isPlD sv.length (.int i) = false := decide_eq_false fun z => by omega
          rw [e2, Bool.false_and] at q'
          exact q'
        have g1' := of_decide_eq_false (Bool.eq_false_iff.mpr g1)
        have e2 : isPlD sv.length (.int i) = true := decide_eq_true ⟨hi0, by omega⟩
        rw [e2] at q
        simp only [Bool.true_and] at q
        refine ⟨_, rfl, a, _, _, _, rfl, rfl, SqT.of (e1 _ _ ha), rfl, _, _, _, _, _, rfl, .ty "tuple", ty_of (t1.up e1), ki_tuple d1, _, rfl, ?_⟩
        cases hT1 : kT d1 with
        | false =>
          refine iteT ?_
          have q' := q H1 e1
          rw [isCt_not hT1, Bool.false_and] at q'
          exact q'
        | true =>
        refine iteF ?_
        refine ⟨_, rfl, a, _, _, _, rfl, rfl, SqT.of (e1 _ _ ha), rfl, _, _, _, _, _, rfl, .ty "tuple", ty_of (t2.up e1), ki_tuple d2, _, rfl, ?_⟩
        cases hT2 : kT d2 with
        | false =>
          refine iteT ?_
          have q' := q H1 e1
          rw [isCs_not hT2, Bool.and_false] at q'
          exact q'
        | true =>
        refine iteF ?_
        obtain ⟨b1, xs1, ds1, rfl, rfl, hb1, u1⟩ := dq_tup (t1.up e1) hT1
        obtain ⟨b2, xs2, ds2, rfl, rfl, hb2, u2⟩ := dq_tup (t2.up e1) hT2
        have lx1 := u1.len
        have lx2 := u2.len
        have kl : (kvI ps).map (·.1) = (ps.map (·.1)).map Sum.inr := by
          unfold kvI
          rw [List.map_map, List.map_map]
          rfl
        refine ⟨_, rfl, m, _, rfl, get_b hm, db, _, _, rfl, Rd.of hdb, kl, by rw [List.length_map]; omega, fun us l3 hperm2 hso2 hl3 => ?_⟩
        obtain rfl : us = ns := sorted_one hso2 hso (hperm2.trans hperm.symm)
        have e3 := Ext.new (o := .lst (us.map V.str)) hl3
        have k3 := upd_same (H := H1) (a := l3) (o := HO.lst (us.map V.str))
        have e13 := e1.trans e3
        have hb1' := e3 _ _ hb1
        have hb2' := e3 _ _ hb2
        have u1' := DqAll.up e3 u1
        have u2' := DqAll.up e3 u2
        have hm3 := e3 _ _ hm
        have hdb3 := e3 _ _ hdb
        generalize upd H1 l3 (.lst (us.map V.str)) = H3 at e13 k3 hb1' hb2' u1' u2' hm3 hdb3 ⊢
        refine ⟨_, rfl, m, g, ps, sv, kx, ks, rfl, hM.up e13, hG, hkp, hks, fun l4 ys H4 hl4 e4 h4 h4z => ⟨_, _, rfl, ?_⟩⟩
        have ly : ys.length = (seatsOf ks).length := by rw [h4z.len, List.length_map]
        have e14 := e13.trans e4
        have ha4 := e14 _ _ ha
        refine ⟨_, rfl, a, _, _, _, rfl, rfl, SqT.of ha4, rfl, b1, _, rfl, .inr (SqT.of (e4 _ _ hb1')), _, rfl, l3, _, rfl, .inl (SqL.of (e4 _ _ k3)), rfl, _, rfl, ?_⟩
        by_cases c1 : ds1.length = us.length
        case neg =>
          have z : (!decide (V.int (xs1.length : Int) = V.int ((us.map V.str).length : Int))) = true := by
            rw [decide_eq_false]
            · rfl
            · intro y
              injection y with y
              rw [List.length_map] at y
              omega
          rw [z]
          refine iteT ?_
          have q' := q H4 e14
          have e2 : isCtD (us.map (bdOf ps)) (.tuple ds1) = false := by
            show (decide (ds1.length = (us.map (bdOf ps)).length) && _) = false
            rw [decide_eq_false (by rw [List.length_map]; exact c1), Bool.false_and]
          rw [e2, Bool.false_and] at q'
          exact q'
        have z : (!decide (V.int (xs1.length : Int) = V.int ((us.map V.str).length : Int))) = false := by
          rw [List.length_map, lx1, c1]
          simp
        rw [z]
        refine iteF ?_
        refine ⟨_, rfl, a, _, _, _, rfl, rfl, SqT.of ha4, rfl, b2, _, rfl, .inr (SqT.of (e4 _ _ hb2')), _, rfl, l4, _, rfl, .inl (SqL.of h4), rfl, _, rfl, ?_⟩
        by_cases c2 : ds2.length = (seatsOf ks).length
        case neg =>
          have z : (!decide (V.int (xs2.length : Int) = V.int (ys.length : Int))) = true := by
            rw [decide_eq_false]
            · rfl
            · intro y
              injection y with y
              omega
          rw [z]
          refine iteT ?_
          have q' := q H4 e14
          have e2 : isCsD (seatsOf ks).length (.tuple ds2) = false := by
            show (decide (ds2.length = (seatsOf ks).length) && _) = false
            rw [decide_eq_false c2, Bool.false_and]
          rw [e2, Bool.and_false] at q'
          exact q'
        have z : (!decide (V.int (xs2.length : Int) = V.int (ys.length : Int))) = false := by
          rw [lx2, c2, ly]
          simp
        rw [z]
        refine iteF ?_
        have e34 := e4
        have lb : (us.map (bdOf ps)).length = us.length := List.length_map ..
        refine ⟨_, rfl, l3, _, rfl, .inl (SqL.of (e4 _ _ k3)), _, rfl, by rw [List.length_map]; omega, by rw [List.length_map]; omega, ?_⟩
        rw [Int.toNat_natCast, List.length_map]
        refine for_range (n := us.length) (fun i σ H' => ∃ v4 v5, σ = [some (.ref m), some (.ref a), some (.ref l3), some (.ref l4), v4, v5, none] ∧ Ext H4 H' ∧ ∀ k < i, isStD ((us.map (bdOf ps)).getD k 0) (ds1.getD k .none) = true)
          ⟨_, _, rfl, Ext.refl _, fun k hk => absurd hk (Nat.not_lt_zero k)⟩ ?_ ?_
        · rintro i σ H5 hi ⟨v4, v5, rfl, e5, hall⟩
          have hi1 : i < ds1.length := by omega
          have e15 := e14.trans e5
          obtain ⟨x, hx, dx⟩ := DqAll_get (DqAll.up (e4.trans e5) u1') i ds1[i] (List.getElem?_eq_getElem hi1)
          have eg : (us.map (bdOf ps)).getD i 0 = bdOf ps us[i] := by
            rw [List.getD_eq_getElem?_getD, List.getElem?_map, List.getElem?_eq_getElem hi]
            rfl
          have ed : ds1.getD i .none = ds1[i] := by
            rw [List.getD_eq_getElem?_getD, List.getElem?_eq_getElem hi1]
            rfl
          have fail : isStD (bdOf ps us[i]) ds1[i] = false → ∀ H', Ext H5 H' → Q (.bl false) H' := fun h H' e => by
            have q' := q H' (e15.trans e)
            rw [ct_false (k := i) (by rw [lb]; exact hi) (by rw [eg, ed]; exact h), Bool.false_and] at q'
            exact q'
          refine ⟨_, rfl, a, _, _, _, rfl, rfl, SqT.of (e15 _ _ ha), rfl, _, rfl, b1, _, _, _, rfl, rfl, SqT.of ((e4.trans e5) _ _ hb1'), by rw [Int.zero_add]; exact atI_nat hx, ?_⟩
          refine ⟨_, rfl, _, _, _, _, _, rfl, .ty "tuple", ty_of dx, ki_tuple _, _, rfl, ?_⟩
          cases hTs : kT ds1[i] with
          | false =>
            refine iteT ?_
            exact fail (isSt_not hTs) _ (Ext.refl _)
          | true =>
          refine iteF ?_
          generalize hde : ds1[i] = de at dx hTs ed fail
          obtain ⟨b, us2, es, rfl, rfl, hb, ut⟩ := dq_tup dx hTs
          have lut := ut.len
          refine ⟨_, rfl, b, _, rfl, .inr (SqT.of hb), rfl, _, rfl, ?_⟩
          by_cases c3 : es.length = 2
          case neg =>
            have z : (!decide (V.int (us2.length : Int) = V.int 2)) = true := by
              rw [decide_eq_false]
              · rfl
              · intro y
                injection y with y
                omega
            rw [z]
            refine iteT ?_
            exact fail (isSt_len c3) _ (Ext.refl _)
          have z : (!decide (V.int (us2.length : Int) = V.int 2)) = false := by rw [lut, c3]; decide +kernel
          rw [z]
          refine iteF ?_
          obtain ⟨w0, w1, f0, f1, rfl, rfl, k0, k1⟩ := two_of ut (by omega)
          refine ⟨_, rfl, b, _, _, _, rfl, rfl, SqT.of hb, rfl, _, _, _, _, _, rfl, .ty "bool", ty_of k1, ki_bool f1, _, rfl, ?_⟩
          cases hB : kB f1 with
          | false =>
            refine iteT ?_
            refine fail ?_ _ (Ext.refl _)
            unfold isStD
            dsimp only
            rw [hB, Bool.and_false]
          | true =>
          refine iteF ?_
          refine ⟨_, rfl, b, _, _, _, rfl, rfl, SqT.of hb, rfl, w0, f0, rfl, k0, trivial, fun H6 e6 => ⟨_, rfl, ?_⟩⟩
          cases hN : isNumD f0 with
          | false =>
            refine iteT ?_
            refine fail ?_ _ e6
            unfold isStD
            dsimp only
            rw [hN, Bool.false_and, Bool.false_and]
          | true =>
          refine iteF ?_
          obtain ⟨c, rfl, hc0⟩ := num_int hN
          cases k0
          have e36 := (e4.trans e5).trans e6
          have mm : us[i] ∈ ps.map (·.1) := hperm.mem_iff.mp (List.getElem_mem hi)
          have gb := DGet.k (k := .inr us[i]) (e36 _ _ hdb3)
          rw [kvI_val mm] at gb
          refine ⟨_, rfl, b, _, _, _, rfl, rfl, SqT.of (e6 _ _ hb), rfl, _, rfl, m, _, rfl, get_b (e36 _ _ hm3), _, rfl, _, rfl, l3, _, _, _, rfl, rfl, SqL.of (e36 _ _ k3), by rw [Int.zero_add]; exact atI_nat (ix_get i hi), db, _, rfl, gb, _, _, rfl, rfl, _, rfl, ?_⟩
          refine ite2 (fun g2 => ?_) (fun g2 => ?_)
          · have g2' := of_decide_eq_true g2
            refine fail ?_ _ e6
            unfold isStD
            dsimp only
            rw [decide_eq_false (by omega), Bool.and_false, Bool.false_and]
          · have g2' := of_decide_eq_false (Bool.eq_false_iff.mpr g2)
            refine ⟨_, _, rfl, e5.trans e6, fun k hk => ?_⟩
            by_cases ck : k < i
            · exact hall k ck
            · obtain rfl : k = i := by omega
              rw [eg, ed]
              unfold isStD
              dsimp only
              rw [hN, hB, decide_eq_true (by omega)]
              rfl
        · rintro σ H5 ⟨v4, v5, rfl, e5, hall⟩
          have e15 := e14.trans e5
          have ec : isCtD (us.map (bdOf ps)) (.tuple ds1) = true := ct_true (by rw [lb]; exact c1) fun k hk => hall k (by rw [lb] at hk; exact hk)
          rw [ec] at q
          simp only [Bool.true_and] at q
          have e35 := e4.trans e5
          refine ⟨_, rfl, a, _, _, _, rfl, rfl, SqT.of (e15 _ _ ha), rfl, b2, rfl, ⟨_, SqT.of (e35 _ _ hb2')⟩, fun D hD => ?_⟩
          have u2'' := DqAll.up e35 u2'
          refine lc1_acc (walk_tup (xs := xs2)) (fun i ys' _ => (ys' = [] ↔ (ds2.take i).all isNumD = true) ∧ ys'.length ≤ i ∧ i ≤ 15) (fun _ _ _ _ _ h => h) ⟨⟨fun _ => rfl, fun _ => rfl⟩, Nat.le_refl _, by decide⟩ hD
            (fun i ys' _ ⟨_, h, h2⟩ => Nat.lt_of_le_of_lt (show _ ≤ 15 by omega) (by decide)) (fun H' e => SqT.of (e _ _ (e35 _ _ hb2'))) ?_ ?_
          · rintro i x Hi H' ys' hi e hy ⟨rfl, hxi⟩ ⟨hp, hp2, _⟩ QY QN kY kN
            have hi2 : i < ds2.length := by omega
            obtain ⟨x', hx', dx⟩ := DqAll_get u2'' i ds2[i] (List.getElem?_eq_getElem hi2)
            rw [hxi] at hx'
            cases hx'
            refine ⟨rfl, _, rfl, x, ds2[i], rfl, dx.up e, trivial, fun H4' e4' => ⟨_, rfl, ?_⟩⟩
            cases hn2 : isNumD ds2[i] with
            | true =>
              refine iteF ?_
              refine kN _ e4' ⟨?_, by omega, by omega⟩
              rw [hp, List.take_add_one, List.getElem?_eq_getElem hi2, Option.toList_some, List.all_append]
              simp [hn2]
            | false =>
              refine iteT ?_
              refine ⟨_, rfl, kY _ _ e4' ⟨?_, by rw [List.length_append]; simp; omega, by omega⟩⟩
              rw [List.take_add_one, List.getElem?_eq_getElem hi2, Option.toList_some, List.all_append]
              simp [hn2]
          · rintro H6 ys' e6 hy ⟨hp, _, _⟩
            rw [lx2, List.take_length] at hp
            refine ⟨by show 0 ≤ sizeLine; decide, fun p2 hp2 => ?_⟩
            have ep := Ext.new (o := .lst []) hp2
            refine ⟨D, p2, _, rfl, rfl, SqL.of (ep _ _ hy), SqL.of upd_same, ?_⟩
            have q' := q _ ((e15.trans e6).trans ep)
            have e2 : isCsD (seatsOf ks).length (.tuple ds2) = ys'.isEmpty := by
              show (decide (ds2.length = (seatsOf ks).length) && ds2.all isNumD) = _
              rw [decide_eq_true c2, Bool.true_and, Bool.eq_iff_iff, List.isEmpty_iff]
              exact hp.symm
            rw [e2] at q'
            exact q'
end
end K28

set_option Elab.async false
set_option linter.all false
set_option maxRecDepth 100000
set_option maxHeartbeats 4000000
namespace K28
open PySem PySem.Spec PyProof.Rows L2 Ol RZ
open TL (tl)
/-! ### sizes of longer data -/
theorem gd_sizeM {n : Nat} {ds : List PyData} (h : ∀ d ∈ ds, Gd n d) (h5 : ds.length ≤ 60) : piled (PyData.shownAll ds) + 3 ≤ 200 * 8 ^ (n + 2) := by
  obtain ⟨_, _, h3, h4⟩ := all_sh h
  have z := pile_le _ h3
  have p := pow8 n
  rw [h4] at z
  have z2 : ds.length * (200 * 8 ^ n + 2) ≤ 60 * (200 * 8 ^ n + 2) := Nat.mul_le_mul_right _ h5
  rw [Nat.pow_succ, Nat.pow_succ]
  omega
theorem gd_listM {n : Nat} {ds : List PyData} (h : ∀ d ∈ ds, Gd n d) (h5 : ds.length ≤ 60) : Gd (n + 2) (.list ds) := by
  obtain ⟨h1, h2, _, _⟩ := all_sh h
  have z := gd_sizeM h h5
  refine ⟨by simpa [PyData.showable] using h1, by simp only [PyData.depth]; omega, ?_, nope1 rfl, nopeT rfl⟩
  simp only [PyData.shown]
  have := listText_le (PyData.shownAll ds)
  omega
theorem gd_tupleM {n : Nat} {ds : List PyData} (h : ∀ d ∈ ds, Gd n d) (h5 : ds.length ≤ 60) : Gd (n + 2) (.tuple ds) := by
  obtain ⟨h1, h2, _, _⟩ := all_sh h
  have z := gd_sizeM h h5
  refine ⟨by simpa [PyData.showable] using h1, by simp only [PyData.depth]; omega, ?_, nope1 rfl, fun es e he hm => ?_⟩
  · simp only [PyData.shown]
    have := tupleText_le (PyData.shownAll ds)
    omega
  · cases he
    exact (h e hm).ok1
theorem th_listM {n : Nat} {H : Hp} {p : Addr} {xs : List V} (hp : H p = some (.lst xs)) (h : ∀ x ∈ xs, Th n x H) (h5 : xs.length ≤ 60) : Th (n + 2) (.ref p) H := by
  obtain ⟨ds, h1, h2, h3⟩ := th_all h
  exact ⟨_, .lst hp h1, gd_listM h2 (by omega)⟩
theorem th_tupleM {n : Nat} {H : Hp} {p : Addr} {xs : List V} (hp : H p = some (.tup xs)) (h : ∀ x ∈ xs, Th n x H) (h5 : xs.length ≤ 60) : Th (n + 2) (.ref p) H := by
  obtain ⟨ds, h1, h2, h3⟩ := th_all h
  exact ⟨_, .tup hp h1, gd_tupleM h2 (by omega)⟩
theorem gd_small : ∀ n < 256, Gd 0 (.int ((n : Nat) : Int)) := fun n h => by
  have k : ∀ n < 256, ((n : Nat) : Int).natAbs.log2 < 1920 ∧ ((toString ((n : Nat) : Int) : String) : Str).length ≤ 200 := by decide +kernel
  exact gd_int _ (k n h).1 (k n h).2
theorem th_each {n : Nat} {H : Hp} : ∀ {xs : List V} {ds : List PyData}, DqAll H xs ds → (∀ d ∈ ds, Gd n d) → ∀ x ∈ xs, Th n x H
  | _, _, .nil, _, x, hx => nomatch hx
  | _, _, .cons a t, h, x, hx => by
    rcases List.mem_cons.mp hx with rfl | hx
    · exact ⟨_, a, h _ List.mem_cons_self⟩
    · exact th_each t (fun d hd => h d (List.mem_cons_of_mem _ hd)) x hx
theorem off_tup {H : Hp} {p q : Addr} {l xs : List V} (hp : H p = some (.lst l)) (h : H q = some (.tup xs)) : del H p q = some (.tup xs) := by
  rw [del_ne (fun z => by rw [z, hp] at h; cases h)]
  exact h
theorem off_new {H : Hp} {p t : Addr} {o u : HO} (hp : H p = some u) (ht : H t = none) : Ext (del H p) (del (upd H t o) p) ∧ del (upd H t o) p t = some o :=
  ⟨ext_del (Ext.new ht), by rw [del_ne (fun z => by rw [z, hp] at ht; cases ht)]; exact upd_same⟩
theorem nw_off {H H' : Hp} {p : Addr} {u : HO} (hp : H p = some u) : Ext (nw H H') (del H' p) := fun b o z => by
  have c : b ≠ p := fun c => by
    rw [c, nw_some hp] at z
    cases z
  rw [del_ne c]
  exact nw_ext b o z
theorem dec_eqI {j k : Nat} : decide (V.int (j : Int) = V.int (k : Int)) = true ↔ j = k := by
  rw [decide_eq_true_eq]
  constructor
  · intro z
    injection z with z
    omega
  · intro z
    rw [z]
theorem cat_any {K' : PySem.W.Frag} {H : Hp} {a b : Addr} {xs ys : List V} {Q : V → Hp → Prop} (h : H a = some (.tup xs)) (h2 : H b = some (.tup ys)) (hl : xs.length + ys.length ≤ sizeLine)
    (k : ∀ p H', Ext H H' → H' p = some (.tup (xs ++ ys)) → Q (.ref p) H') : rCatA K' (.ref a) (.ref b) H Q := by
  refine ⟨a, b, xs, ys, rfl, rfl, SqT.of h, SqT.of h2, hl, fun z => k _ _ (Ext.refl _) ?_, fun _ z => k _ _ (Ext.refl _) ?_, fun _ _ p hp => k _ _ (Ext.new hp) upd_same⟩
  · rw [h2, z]
    rfl
  · rw [h, z, List.append_nil]
theorem cut_drop1 (xs : List V) : cutV xs (some 1) none = xs.drop 1 := cut_drop xs 1
theorem cut_take1 (xs : List V) : cutV xs none (some 1) = xs.take 1 := cut_take xs 1
theorem cutV_sub {xs : List V} {lo hi : Option Int} : ∀ y ∈ cutV xs lo hi, y ∈ xs := fun y hy => by
  unfold cutV at hy
  first
    | exact List.mem_of_mem_drop (List.mem_of_mem_take hy)
    | exact List.mem_of_mem_take (List.mem_of_mem_drop hy)
section
variable {P : Program} {w : World} {K : PySem.W.Frag} {mg : Str → Option Value} {base : Heap} {C CP S : Addr}
theorem eqv_te (ds : List PyData) : PyData.eqv (.tuple ds) (.tuple []) = ds.isEmpty := by
  cases ds <;> simp [PyData.eqv, PyData.eqvAll]
theorem sh_cnt (ct : List Nat) : SeqAt.shaped (cntD ct) = true := by
  refine lay_shaped ?_ ?_
  · unfold cntD
    rw [PyData.canLay0]
    refine lay_all fun d hd => ?_
    obtain ⟨n, _, rfl⟩ := List.mem_map.mp hd
    simp [PyData.canLay0]
  · have := dep_all (n := 1) (ds := cntL ct) fun d hd => by
      obtain ⟨n, _, rfl⟩ := List.mem_map.mp hd
      simp [PyData.depth]
    show (PyData.tuple _).depth ≤ 64
    simp only [PyData.depth]
    omega
/-- the parts of a standing, put otherwise so far -/
def NearW (H1 : Hp) (a m p : Addr) (v : V) (j : Nat) (x : Str) (pl : Nat) (b c : Addr) (k : Nat) (σ' : L2.St) (H' : Hp) : Prop :=
  ∃ x0 x1 x2 v6 v7, σ' = [some (.ref a), some (.ref m), some v, some (.ref p), some (.int (j : Int)), some (.str x), v6, v7] ∧ Ext (del H1 p) H' ∧ H' p = some (.lst [x0, x1, x2]) ∧ Th 3 x0 (del H' p) ∧ Th 3 x1 (del H' p) ∧ Th 3 x2 (del H' p) ∧
    (k ≤ j → x0 = .int (pl : Int) ∧ x1 = .ref b ∧ x2 = .ref c)
theorem NearW.skip {H1 : Hp} {a m p : Addr} {v : V} {j : Nat} {x : Str} {pl : Nat} {b c : Addr} {k : Nat} {σ' : L2.St} {H' : Hp} : NearW H1 a m p v j x pl b c k σ' H' → NearW H1 a m p v j x pl b c (k + 1) σ' H'
  | ⟨x0, x1, x2, v6, v7, h1, h2, h3, h4, h5, h6, h7⟩ => ⟨x0, x1, x2, v6, v7, h1, h2, h3, h4, h5, h6, fun z => h7 (by omega)⟩
theorem NearW.set {H1 H2 : Hp} {a m p : Addr} {v y x0 x1 x2 : V} {v6 v7 : Option V} {j : Nat} {x : Str} {pl : Nat} {b c : Addr} {k : Nat} (i : Nat) (hi : i < 3) (hj : j = k) (e : Ext (del H1 p) H2) (h2 : H2 p = some (.lst [x0, x1, x2]))
    (t0 : Th 3 x0 (del H2 p)) (t1 : Th 3 x1 (del H2 p)) (t2 : Th 3 x2 (del H2 p)) (ty : Th 3 y (del H2 p)) :
    NearW H1 a m p v j x pl b c (k + 1) [some (.ref a), some (.ref m), some v, some (.ref p), some (.int (j : Int)), some (.str x), v6, v7] (upd H2 p (.lst ([x0, x1, x2].set i y))) := by
  match i, hi with
  | 0, _ => exact ⟨y, x1, x2, v6, v7, rfl, Ext.mut e del_same, upd_same, by rw [del_upd]; exact ty, by rw [del_upd]; exact t1, by rw [del_upd]; exact t2, fun z => absurd z (by omega)⟩
  | 1, _ => exact ⟨x0, y, x2, v6, v7, rfl, Ext.mut e del_same, upd_same, by rw [del_upd]; exact t0, by rw [del_upd]; exact ty, by rw [del_upd]; exact t2, fun z => absurd z (by omega)⟩
  | 2, _ => exact ⟨x0, x1, y, v6, v7, rfl, Ext.mut e del_same, upd_same, by rw [del_upd]; exact t0, by rw [del_upd]; exact t1, by rw [del_upd]; exact ty, fun z => absurd z (by omega)⟩
def spNear : Sp := fun vs H Q _ => ∃ (a m : Addr) (g : Int) (ps : List (Str × Int)) (sv : List Place) (kx : List Knd) (ns : List Str) (mm : Nat) (v : V) (s : Std), vs = [.ref a, .ref m, v] ∧ Sys H ∧ Bag H a ∧ MdlAt H m ps sv kx ∧ GMdl g ps sv kx ∧ g ≤ 3 ∧
  ns.Perm (ps.map (·.1)) ∧ sortedS ns = true ∧ Dq H v (stgD s) ∧ GStd ns (bdOf ps) sv.length mm 200 s ∧ mm ≤ 20 ∧ ∀ (u : V) (H' : Hp), Ext H H' → Th 5 u H' → Q u H'
abbrev s__law_near : Stmt := (topS 55)
theorem sc__law_near : FnScope ["_law_bag_here", "_law_model_here", "_law_standing_here", "_law_parts", "_law_style", "_law_name", "_law_state_here", "_law_at"] ["_law_bag_here", "_law_model_here", "_law_standing_here"] (defScope s__law_near) := ⟨rfl, rfl, rfl, by decide +kernel, rfl, by decide +kernel, by decide +kernel⟩
theorem ok_near {f : Addr} {fd : FuncData} (F : Fun K "_law_near" "_law_near" s__law_near f fd) (T : BT mg)
    (CT : Ca P w K mg base 1 "_law_take" ["_law_bag_here", "_law_many"] spTake) (COd : Ca P w K mg base 2 "_law_odd" ["_law_bag_here", "_law_name"] spOdd) :
    FnOk P w K mg base CX0 3 f fd ["_law_bag_here", "_law_model_here", "_law_standing_here"] spNear := by
  refine F.ok sc__law_near (fun vs H Q E h => ?_) (fun cdv A outer s H vs Q E hr h => ?_)
  · obtain ⟨a, m, g, ps, sv, kx, ns, mm, v, s, rfl, _⟩ := h
    rfl
  · obtain ⟨a, m, g, ps, sv, kx, ns, mm, v, st, rfl, hSy, hB, hM, hG, g3, hperm, hso, hv, hst, hmm, q⟩ := h
    refine ⟨_, (pss_cons (ps_par3 (i := 3) (j := 4) (l := 5) rfl sc__law_near.nd rfl rfl rfl (by decide) (by decide) (by decide) rfl rfl rfl (pa_cons (pe_callTy call_list_of (by rfl) T.n_list (by decide +kernel) (pa_cons (pv 2) pa_nil)) (pa_cons (pe_ca CT (hr.mono (by decide)) (by rfl) (pa_cons (pv 0) (pa_cons pe_int pa_nil))) (pa_cons (pe_ix ix_list (pe_callB (call_sortedD rfl) (by rfl) T.n_sorted (by decide +kernel) (pa_cons (pe_dget (hu_of hr) (pv 1) pe_str (fun _ _ => rfl)) pa_nil)) pe_int (fun _ _ => rfl)) pa_nil))) (by rfl))
    (pss_cons (ps_if (pt_cmpR op_eq (pv 4) pe_int (nomark _))
      (pss_one (ps_asg (pe_ix ix_list (pe_lst (pa_cons (pe_callB call_len_seq (by rfl) T.n_len (by decide +kernel) (pa_cons (pe_dget (hu_of hr) (pv 1) pe_str (fun _ _ => rfl)) pa_nil)) (pa_cons (pe_un un_neg pe_int) (pa_cons pe_bl (pa_cons pe_bl (pa_cons pe_non (pa_cons pe_str (pa_cons (pe_tup (pa_cons pe_int pa_nil)) pa_nil)))))))) (pe_ca CT (hr.mono (by decide)) (by rfl) (pa_cons (pv 0) (pa_cons pe_int pa_nil))) (fun _ _ => rfl)) (pg_sub (pv 3) pe_int set_list)))
      pss_nil)
    (pss_cons (ps_if (pt_cmpR op_eq (pv 4) pe_int (nomark _))
      (pss_one (ps_asg (pe_ix ix_list (pe_lst (pa_cons (pe_callTy call_list_of (by rfl) T.n_list (by decide +kernel) (pa_cons (pe_ix ix_list (pv 3) pe_int (fun _ _ => rfl)) pa_nil)) (pa_cons (pe_slice sl_tupA (pe_ix ix_list (pv 3) pe_int (fun _ _ => rfl)) (po_some pe_int) po_none) (pa_cons (pe_op op_catA (pe_ix ix_list (pv 3) pe_int (fun _ _ => rfl)) (pe_slice sl_tupA (pe_ix ix_list (pv 3) pe_int (fun _ _ => rfl)) po_none (po_some pe_int))) (pa_cons (pe_tup pa_nil) pa_nil))))) (pe_ca CT (hr.mono (by decide)) (by rfl) (pa_cons (pv 0) (pa_cons pe_int pa_nil))) (fun _ _ => rfl)) (pg_sub (pv 3) pe_int set_list)))
      pss_nil)
    (pss_cons (ps_if (pt_cmpR op_eq (pv 4) pe_int (nomark _))
      (pss_cons (ps_set (i := 6) sc__law_near.nd rfl (.inl rfl) (pe_ix ix_list (pe_lst (pa_cons (pe_tup (pa_cons pe_int (pa_cons pe_bl pa_nil))) (pa_cons (pe_tup (pa_cons pe_int (pa_cons pe_int pa_nil))) (pa_cons (pe_tup (pa_cons pe_bl (pa_cons pe_bl pa_nil))) (pa_cons (pe_tup (pa_cons pe_int pa_nil)) (pa_cons (pe_lst (pa_cons pe_int (pa_cons pe_bl pa_nil))) (pa_cons (pe_tup (pa_cons (pe_un un_neg pe_int) (pa_cons pe_bl pa_nil))) pa_nil))))))) (pe_ca CT (hr.mono (by decide)) (by rfl) (pa_cons (pv 0) (pa_cons pe_int pa_nil))) (fun _ _ => rfl)))
      (pss_cons (ps_set (i := 7) sc__law_near.nd rfl (.inl rfl) (pe_ca CT (hr.mono (by decide)) (by rfl) (pa_cons (pv 0) (pa_cons (pe_callB call_len_seq (by rfl) T.n_len (by decide +kernel) (pa_cons (pe_ix ix_list (pv 3) pe_int (fun _ _ => rfl)) pa_nil)) pa_nil))))
      (pss_one (ps_asg (pe_op op_catA (pe_op op_catA (pe_slice sl_tupA (pe_ix ix_list (pv 3) pe_int (fun _ _ => rfl)) po_none (po_some (pv 7))) (pe_tup (pa_cons (pv 6) pa_nil))) (pe_slice sl_tupA (pe_ix ix_list (pv 3) pe_int (fun _ _ => rfl)) (po_some (pe_op op_add (pv 7) pe_int)) po_none)) (pg_sub (pv 3) pe_int set_list)))))
      pss_nil)
    (pss_cons (ps_if (pt_cmpR op_eq (pv 4) pe_int (nomark _))
      (pss_one (ps_asg (pe_ix ix_list (pe_lst (pa_cons (pe_callTy call_list_of (by rfl) T.n_list (by decide +kernel) (pa_cons (pe_ix ix_list (pv 3) pe_int (fun _ _ => rfl)) pa_nil)) (pa_cons (pe_slice sl_tupA (pe_ix ix_list (pv 3) pe_int (fun _ _ => rfl)) (po_some pe_int) po_none) (pa_cons (pe_op op_catA (pe_ix ix_list (pv 3) pe_int (fun _ _ => rfl)) (pe_tup (pa_cons pe_int pa_nil))) (pa_cons pe_dnewK pa_nil))))) (pe_ca CT (hr.mono (by decide)) (by rfl) (pa_cons (pv 0) (pa_cons pe_int pa_nil))) (fun _ _ => rfl)) (pg_sub (pv 3) pe_int set_list)))
      pss_nil)
    (pss_cons (ps_if (PW.pt (pw_and (pt_cmpR op_eq (pv 4) pe_int (nomark _)) (pw_and1 (pt_cmpR (op_neQ hr) (pe_ix ix_list (pv 3) pe_int (fun _ _ => rfl)) (pe_tup pa_nil) (nomark _)))))
      (pss_cons (ps_set (i := 7) sc__law_near.nd rfl (.inl rfl) (pe_ca CT (hr.mono (by decide)) (by rfl) (pa_cons (pv 0) (pa_cons (pe_callB call_len_seq (by rfl) T.n_len (by decide +kernel) (pa_cons (pe_ix ix_list (pv 3) pe_int (fun _ _ => rfl)) pa_nil)) pa_nil))))
      (pss_one (ps_asg (pe_op op_catA (pe_op op_catA (pe_slice sl_tupA (pe_ix ix_list (pv 3) pe_int (fun _ _ => rfl)) po_none (po_some (pv 7))) (pe_tup (pa_cons (pe_ca COd (hr.mono (by decide)) (by rfl) (pa_cons (pv 0) (pa_cons (pv 5) pa_nil))) pa_nil))) (pe_slice sl_tupA (pe_ix ix_list (pv 3) pe_int (fun _ _ => rfl)) (po_some (pe_op op_add (pv 7) pe_int)) po_none)) (pg_sub (pv 3) pe_int set_list))))
      pss_nil)
    (pss_cons (ps_if (pt_cmpR op_eq (pv 4) pe_int (nomark _))
      (pss_one (ps_set (i := 3) sc__law_near.nd rfl (.inl rfl) (pe_ifExp (pt_cmpR op_eq (pe_ca CT (hr.mono (by decide)) (by rfl) (pa_cons (pv 0) (pa_cons pe_int pa_nil))) pe_int (nomark _)) (pe_slice sl_list (pv 3) po_none (po_some pe_int)) (pe_op op_cat (pv 3) (pe_lst (pa_cons pe_int pa_nil))))))
      pss_nil)
    (pss_cons (ps_if (pt_cmpR op_eq (pv 4) pe_int (nomark _))
      (pss_one (ps_ret (pe_ix ix_list (pe_lst (pa_cons (pv 3) (pa_cons (pe_ca COd (hr.mono (by decide)) (by rfl) (pa_cons (pv 0) (pa_cons (pv 5) pa_nil))) pa_nil))) (pe_ca CT (hr.mono (by decide)) (by rfl) (pa_cons (pv 0) (pa_cons pe_int pa_nil))) (fun _ _ => rfl))))
      pss_nil)
    (pss_one (ps_ret (pe_callTy call_tuple_of (by rfl) T.n_tuple (by decide +kernel) (pa_cons (pv 3) pa_nil)))))))))))), ?_⟩
    obtain ⟨sa, b, c, xs, rfl, v1, v2, v3, v4⟩ := stg_inv hv
    have lns : ns.length = ps.length := by rw [hperm.length_eq, List.length_map]
    have p1 := hG.p1
    have p3 := hG.p3
    obtain ⟨sf0, hcs, hcb⟩ := hst.cs
    have lxs : xs.length = ns.length := by rw [v3.len]; unfold ctL; rw [List.length_map, hcs, List.length_map]
    have lct := hst.ct
    have spl := hst.pl
    have s5 := hG.s5
    -- the parts
    refine ⟨_, rfl, sa, _, rfl, .inr (SqT.of v1), fun p hp => ?_⟩
    have e1 := Ext.new (o := .lst [.int (st.pl : Int), .ref b, .ref c]) hp
    have h1p := upd_same (H := H) (a := p) (o := HO.lst [.int (st.pl : Int), .ref b, .ref c])
    generalize upd H p (.lst [.int (st.pl : Int), .ref b, .ref c]) = H1 at e1 h1p ⊢
    have eHd : Ext H (del H1 p) := ext_to e1 hp
    refine ⟨_, rfl, a, 9, rfl, hB.up e1, by decide, by decide, fun r r0 r1 => ?_⟩
    obtain ⟨j, rfl⟩ : ∃ j : Nat, r = (j : Int) := ⟨r.toNat, by omega⟩
    have kl : (kvI ps).map (·.1) = (ps.map (·.1)).map Sum.inr := by
      unfold kvI
      rw [List.map_map, List.map_map]
      rfl
    obtain ⟨db, sl, dk, at_, hm, hdb, _⟩ := id hM
    refine ⟨_, rfl, m, _, rfl, get_b (e1 _ _ hm), db, _, _, rfl, Rd.of (e1 _ _ hdb), kl, by rw [List.length_map]; omega, fun us l3 hperm2 hso2 hl3 => ?_⟩
    obtain rfl : us = ns := sorted_one hso2 hso (hperm2.trans hperm.symm)
    have e2 := Ext.new (o := .lst (us.map V.str)) hl3
    have k2 := upd_same (H := H1) (a := l3) (o := HO.lst (us.map V.str))
    have h2p := e2 _ _ h1p
    have e1d : Ext (del H1 p) (upd H1 l3 (.lst (us.map V.str))) := del_ext.trans e2
    generalize upd H1 l3 (.lst (us.map V.str)) = H2 at e1d k2 h2p ⊢
    have h0u : 0 < us.length := by omega
    refine ⟨l3, _, _, _, rfl, rfl, SqL.of k2, atI_nat (j := 0) (ix_get 0 h0u), _, _, _, rfl, ?_⟩
    have nx : isNameS us[0] = true := by
      obtain ⟨q0, hq0, e0⟩ := List.mem_map.mp (hperm.mem_iff.mp (List.getElem_mem h0u))
      rw [← e0]
      exact hG.nm q0 hq0
    generalize us[0] = x0n at nx
    -- what the parts are
    have tS : ∀ y ∈ xs, Th 1 y (del H1 p) := th_each (DqAll.up eHd v3) fun d hd => by
      obtain ⟨s0, hs0, rfl⟩ := List.mem_map.mp hd
      rw [hcs] at hs0
      obtain ⟨x, hx, rfl⟩ := List.mem_map.mp hs0
      have := hcb x hx
      have := hG.bd3 g3 (hperm.mem_iff.mp hx)
      exact gd_st _ _ (by omega)
    have tC : ∀ y ∈ cV st.ct, Th 0 y (del H1 p) := fun y hy => by
      obtain ⟨n, hn, rfl⟩ := List.mem_map.mp hy
      have := hst.cm n hn
      exact ⟨_, .int _, gd_small n (by omega)⟩
    have lC : (cV st.ct).length ≤ 20 := by rw [List.length_map]; omega
    have T0 : Th 3 (.int (st.pl : Int)) (del H1 p) := ⟨_, .int _, (gd_small _ (by omega)).up (by decide)⟩
    have hbd : del H1 p b = some (.tup xs) := eHd _ _ v2
    have hcd : del H1 p c = some (.tup (cV st.ct)) := eHd _ _ v4
    have T1 : Th 3 (.ref b) (del H1 p) := (th_tupleM hbd tS (by omega))
    have T2 : Th 3 (.ref c) (del H1 p) := (th_tupleM hcd (fun y hy => (tC y hy).up (Ext.refl _) (by decide)) (by omega))
    have hBd : Bag (del H1 p) a := hB.up eHd
    have hMd := hM.up eHd
    have ext : ∀ {H'}, Ext (del H1 p) H' → Ext (del H1 p) (del H' p) := fun e => ext_to e del_same
    dsimp only [gName]
    -- the place
    refine cutN (NearW H1 a m p (.ref sa) j x0n st.pl b c 1) (fun W hW => ?_) ?_
    · refine ⟨_, rfl, rfl, _, rfl, ?_⟩
      refine ite2 (fun g0 => ?_) (fun g0 => ?_)
      · have hj := (dec_eqI (k := 0)).mp g0
        have hB2 := hBd.up e1d
        obtain ⟨db, sl, dk, at_, hm2, hdb2, ⟨zs, l1, l2⟩, _⟩ := hMd.up e1d
        have lz : zs.length = sv.length := by rw [l2.len, List.length_map]
        refine ⟨_, rfl, m, _, rfl, get_s hm2, sl, _, rfl, .inl (SqL.of l1), _, rfl, by show 1 ≤ sizeLine; decide, fun t ht => ⟨by show 7 ≤ sizeLine; decide, fun l hl => ?_⟩⟩
        obtain ⟨f1, f2⟩ := off_new (o := .tup [.int 0]) h2p ht
        have et := Ext.new (o := .tup [.int 0]) ht
        have h3p := et _ _ h2p
        have e3d := e1d.trans et
        generalize upd H2 t (.tup [.int 0]) = H3 at f1 f2 et h3p e3d hl ⊢
        have hth : ∀ y ∈ ([.int (zs.length : Int), .int (-1), .bl true, .bl false, .non, .str "0", .ref t] : List V), Th 1 y (del H3 p) := by
          intro y hy
          simp only [List.mem_cons, List.not_mem_nil, or_false] at hy
          rcases hy with rfl | rfl | rfl | rfl | rfl | rfl | rfl
          · exact ⟨_, .int _, (gd_small _ (by omega)).up (by decide)⟩
          · exact ⟨_, .int _, (gd_int _ (by decide +kernel) (by decide +kernel)).up (by decide)⟩
          · exact ⟨_, .bl _, (gd_bl _).up (by decide)⟩
          · exact ⟨_, .bl _, (gd_bl _).up (by decide)⟩
          · exact ⟨_, .non, gd_non.up (by decide)⟩
          · exact ⟨_, .str _, (gd_str _ (by decide +kernel) (by decide +kernel)).up (by decide)⟩
          · exact th_tuple f2 (fun z hz => by cases List.mem_singleton.mp hz; exact ⟨_, .int _, gd_small 0 (by decide)⟩) (by decide)
        have el := Ext.new (o := .lst [.int (zs.length : Int), .int (-1), .bl true, .bl false, .non, .str "0", .ref t]) hl
        have k4 := upd_same (H := H3) (a := l) (o := HO.lst [.int (zs.length : Int), .int (-1), .bl true, .bl false, .non, .str "0", .ref t])
        have h4p := el _ _ h3p
        have e4d := e3d.trans el
        generalize hL : ([.int (zs.length : Int), .int (-1), .bl true, .bl false, .non, .str "0", .ref t] : List V) = L at hth el k4 h4p e4d ⊢
        have lL : L.length = 7 := by rw [← hL]; rfl
        generalize upd H3 l (.lst L) = H4 at el k4 h4p e4d ⊢
        refine ⟨_, rfl, a, 7, rfl, hBd.up e4d, by decide, by decide, fun r r0 r1 => ?_⟩
        obtain ⟨i, rfl⟩ : ∃ j : Nat, r = (j : Int) := ⟨r.toNat, by omega⟩
        have hi : i < L.length := by omega
        refine ⟨l, _, _, L[i], rfl, rfl, SqL.of k4, atI_nat (List.getElem?_eq_getElem hi), _, rfl, p, _, _, 0, rfl, rfl, h4p, rfl, ?_⟩
        exact hW _ _ (NearW.set 0 (by decide) hj e4d h4p (T0.up (ext e4d) (Nat.le_refl _)) (T1.up (ext e4d) (Nat.le_refl _)) (T2.up (ext e4d) (Nat.le_refl _)) ((hth _ (List.getElem_mem hi)).up (ext_del el) (by decide)))
      · exact hW _ _ ⟨_, _, _, _, _, rfl, e1d, h2p, T0.up (ext e1d) (Nat.le_refl _), T1.up (ext e1d) (Nat.le_refl _), T2.up (ext e1d) (Nat.le_refl _), fun _ => ⟨rfl, rfl, rfl⟩⟩
    -- the content
    rintro σ' H5 ⟨x0, x1, x2, v6, v7, rfl, e5, h5p, t0, t1, t2, h5o⟩
    have tupS : ∀ {H' : Hp} {L zs : List V} {t : Addr}, Ext (del H1 p) H' → H' p = some (.lst L) → H' t = some (.tup zs) → (∀ y ∈ zs, y ∈ xs) → zs.length ≤ 60 → Th 3 (.ref t) (del H' p) := fun e hp' h sub hl => th_tupleM (off_tup hp' h) (fun y hy => (tS y (sub y hy)).up (ext e) (Nat.le_refl _)) hl
    have tupC : ∀ {H' : Hp} {L zs : List V} {t : Addr}, Ext (del H1 p) H' → H' p = some (.lst L) → H' t = some (.tup zs) → (∀ y ∈ zs, Th 1 y (del H' p)) → zs.length ≤ 60 → Th 3 (.ref t) (del H' p) := fun e hp' h sub hl => th_tupleM (off_tup hp' h) sub hl
    have k3 : ∀ {H'}, Ext (del H1 p) H' → Th 3 (.int (st.pl : Int)) (del H' p) ∧ Th 3 (.ref b) (del H' p) ∧ Th 3 (.ref c) (del H' p) := fun e => ⟨T0.up (ext e) (Nat.le_refl _), T1.up (ext e) (Nat.le_refl _), T2.up (ext e) (Nat.le_refl _)⟩
    refine cutN (NearW H1 a m p (.ref sa) j x0n st.pl b c 2) (fun W hW => ?_) ?_
    · refine ⟨_, rfl, rfl, _, rfl, ?_⟩
      refine ite2 (fun g0 => ?_) (fun g0 => ?_)
      · have hj := (dec_eqI (k := 1)).mp g0
        obtain ⟨rfl, rfl, rfl⟩ := h5o (by omega)
        refine ⟨_, rfl, p, _, _, _, rfl, rfl, SqL.of h5p, rfl, b, _, rfl, .inr (SqT.of (e5 _ _ hbd)), fun l1 hl1 => ?_⟩
        obtain ⟨f1, f2⟩ := off_new (o := .lst xs) h5p hl1
        have ea := Ext.new (o := .lst xs) hl1
        have h6p := ea _ _ h5p
        have e6 := e5.trans ea
        generalize upd H5 l1 (.lst xs) = H6 at f1 f2 ea h6p e6 ⊢
        refine ⟨_, rfl, p, _, _, _, rfl, rfl, SqL.of h6p, rfl, _, rfl, ?_⟩
        dsimp only [tNoPart]
        refine sl_any (e6 _ _ hbd) fun p1 H7 eb h7 => ?_
        rw [cut_drop1] at h7
        have e7 := e6.trans eb
        have h7p := eb _ _ h6p
        refine ⟨_, rfl, p, _, _, _, rfl, rfl, SqL.of h7p, rfl, _, rfl, p, _, _, _, rfl, rfl, SqL.of h7p, rfl, _, rfl, sl_any (e7 _ _ hbd) fun p2 H8 ec h8 => ?_⟩
        rw [cut_take1] at h8
        have e8 := e7.trans ec
        refine cat_any (e8 _ _ hbd) h8 (by rw [List.length_take]; exact Nat.le_trans (show _ ≤ 60 by omega) (by decide)) fun p3 H9 ed h9 => ?_
        have e9 := e8.trans ed
        have h9p := ed _ _ (ec _ _ h7p)
        refine ⟨by show 0 ≤ sizeLine; decide, fun p4 hp4 => ⟨by show 4 ≤ sizeLine; decide, fun l hl => ?_⟩⟩
        have ee := Ext.new (o := .tup []) hp4
        have k4 := upd_same (H := H9) (a := p4) (o := HO.tup [])
        have h10p := ee _ _ h9p
        have e10 := e9.trans ee
        generalize upd H9 p4 (.tup []) = H10 at ee k4 h10p e10 hl ⊢
        have hth : ∀ y ∈ ([.ref l1, .ref p1, .ref p3, .ref p4] : List V), Th 3 y (del H10 p) := by
          intro y hy
          simp only [List.mem_cons, List.not_mem_nil, or_false] at hy
          rcases hy with rfl | rfl | rfl | rfl
          · refine (th_listM (n := 1) f2 (fun y hy => (tS y hy).up (ext e6) (Nat.le_refl _)) (by omega)).up (ext_del (((eb.trans ec).trans ed).trans ee)) (Nat.le_refl _)
          · exact (tupS e7 h7p h7 (fun y hy => List.mem_of_mem_drop hy) (by rw [List.length_drop]; omega)).up (ext_del ((ec.trans ed).trans ee)) (Nat.le_refl _)
          · refine (tupS e9 h9p h9 (fun y hy => ?_) (by rw [List.length_append, List.length_take]; omega)).up (ext_del ee) (Nat.le_refl _)
            rcases List.mem_append.mp hy with z | z
            · exact z
            · exact List.mem_of_mem_take z
          · exact tupS e10 h10p k4 (fun y hy => by cases hy) (by decide)
        have el := Ext.new (o := .lst [.ref l1, .ref p1, .ref p3, .ref p4]) hl
        have k11 := upd_same (H := H10) (a := l) (o := HO.lst [.ref l1, .ref p1, .ref p3, .ref p4])
        have h11p := el _ _ h10p
        have e11 := e10.trans el
        generalize upd H10 l (.lst [.ref l1, .ref p1, .ref p3, .ref p4]) = H11 at el k11 h11p e11 ⊢
        refine ⟨_, rfl, a, 4, rfl, hBd.up e11, by decide, by decide, fun r r0 r1 => ?_⟩
        obtain ⟨i, rfl⟩ : ∃ j : Nat, r = (j : Int) := ⟨r.toNat, by omega⟩
        have hi : i < ([.ref l1, .ref p1, .ref p3, .ref p4] : List V).length := by show i < 4; omega
        refine ⟨l, _, _, _, rfl, rfl, SqL.of k11, atI_nat (List.getElem?_eq_getElem hi), _, rfl, p, _, _, 1, rfl, rfl, h11p, rfl, ?_⟩
        obtain ⟨u0, u1, u2⟩ := k3 e11
        exact hW _ _ (NearW.set 1 (by decide) hj e11 h11p u0 u1 u2 ((hth _ (List.getElem_mem hi)).up (ext_del el) (Nat.le_refl _)))
      · exact hW _ _ (NearW.skip ⟨x0, x1, x2, v6, v7, rfl, e5, h5p, t0, t1, t2, h5o⟩)
    clear e5 h5p t0 t1 t2 h5o
    -- a state of it
    rintro σ' H5 ⟨x0, x1, x2, v6, v7, rfl, e5, h5p, t0, t1, t2, h5o⟩
    refine cutN (NearW H1 a m p (.ref sa) j x0n st.pl b c 3) (fun W hW => ?_) ?_
    · refine ⟨_, rfl, rfl, _, rfl, ?_⟩
      refine ite2 (fun g0 => ?_) (fun g0 => ?_)
      · have hj := (dec_eqI (k := 2)).mp g0
        obtain ⟨rfl, rfl, rfl⟩ := h5o (by omega)
        refine ⟨by show 2 ≤ sizeLine; decide, fun q1 y1 => ?_⟩
        have z1 := Ext.new (o := .tup [.int 9, .bl false]) y1
        refine ⟨by show 2 ≤ sizeLine; decide, fun q2 y2 => ?_⟩
        have z2 := Ext.new (o := .tup [.int 0, .int 0]) y2
        refine ⟨by show 2 ≤ sizeLine; decide, fun q3 y3 => ?_⟩
        have z3 := Ext.new (o := .tup [.bl true, .bl false]) y3
        refine ⟨by show 1 ≤ sizeLine; decide, fun q4 y4 => ?_⟩
        have z4 := Ext.new (o := .tup [.int 0]) y4
        refine ⟨by show 2 ≤ sizeLine; decide, fun q5 y5 => ?_⟩
        have z5 := Ext.new (o := .lst [.int 0, .bl false]) y5
        refine ⟨_, rfl, by show 2 ≤ sizeLine; decide, fun q6 y6 => ⟨by show 6 ≤ sizeLine; decide, fun l hl => ?_⟩⟩
        have z6 := Ext.new (o := .tup [.int (-1), .bl true]) y6
        have m1 := z6 _ _ (z5 _ _ (z4 _ _ (z3 _ _ (z2 _ _ (upd_same (H := H5) (a := q1) (o := HO.tup [.int 9, .bl false]))))))
        have m2 := z6 _ _ (z5 _ _ (z4 _ _ (z3 _ _ (upd_same (H := upd H5 q1 (.tup [.int 9, .bl false])) (a := q2) (o := HO.tup [.int 0, .int 0])))))
        have m3 := z6 _ _ (z5 _ _ (z4 _ _ (upd_same (H := upd (upd H5 q1 (.tup [.int 9, .bl false])) q2 (.tup [.int 0, .int 0])) (a := q3) (o := HO.tup [.bl true, .bl false]))))
        have m4 := z6 _ _ (z5 _ _ (upd_same (H := upd (upd (upd H5 q1 (.tup [.int 9, .bl false])) q2 (.tup [.int 0, .int 0])) q3 (.tup [.bl true, .bl false])) (a := q4) (o := HO.tup [.int 0])))
        have m5 := z6 _ _ (upd_same (H := upd (upd (upd (upd H5 q1 (.tup [.int 9, .bl false])) q2 (.tup [.int 0, .int 0])) q3 (.tup [.bl true, .bl false])) q4 (.tup [.int 0])) (a := q5) (o := HO.lst [.int 0, .bl false]))
        have m6 := upd_same (H := upd (upd (upd (upd (upd H5 q1 (.tup [.int 9, .bl false])) q2 (.tup [.int 0, .int 0])) q3 (.tup [.bl true, .bl false])) q4 (.tup [.int 0])) q5 (.lst [.int 0, .bl false])) (a := q6) (o := HO.tup [.int (-1), .bl true])
        have z16 := ((((z1.trans z2).trans z3).trans z4).trans z5).trans z6
        have n5 : q5 ≠ p := fun y => by rw [y, ((((z1.trans z2).trans z3).trans z4) _ _ h5p)] at y5; cases y5
        generalize upd (upd (upd (upd (upd (upd H5 q1 (.tup [.int 9, .bl false])) q2 (.tup [.int 0, .int 0])) q3 (.tup [.bl true, .bl false])) q4 (.tup [.int 0])) q5 (.lst [.int 0, .bl false])) q6 (.tup [.int (-1), .bl true]) = H6 at z16 m1 m2 m3 m4 m5 m6 hl ⊢
        clear z1 z2 z3 z4 z5 z6
        have h6p := z16 _ _ h5p
        have e6 := e5.trans z16
        have i0 : Gd 0 (.int 0) := gd_small 0 (by decide)
        have two : ∀ {x y : V} {t : Addr} {H' : Hp}, del H' p t = some (.tup [x, y]) → Th 0 x (del H' p) → Th 0 y (del H' p) → Th 1 (.ref t) (del H' p) := fun h hx hy => th_tuple h (fun z hz => by
          simp only [List.mem_cons, List.not_mem_nil, or_false] at hz
          rcases hz with rfl | rfl
          · exact hx
          · exact hy) (by show 2 ≤ 5; decide)
        have hth : ∀ y ∈ ([.ref q1, .ref q2, .ref q3, .ref q4, .ref q5, .ref q6] : List V), Th 1 y (del H6 p) := by
          intro y hy
          simp only [List.mem_cons, List.not_mem_nil, or_false] at hy
          rcases hy with rfl | rfl | rfl | rfl | rfl | rfl
          · exact two (off_tup h6p m1) ⟨_, .int _, gd_small 9 (by decide)⟩ ⟨_, .bl _, gd_bl _⟩
          · exact two (off_tup h6p m2) ⟨_, .int _, i0⟩ ⟨_, .int _, i0⟩
          · exact two (off_tup h6p m3) ⟨_, .bl _, gd_bl _⟩ ⟨_, .bl _, gd_bl _⟩
          · exact th_tuple (off_tup h6p m4) (fun z hz => by cases List.mem_singleton.mp hz; exact ⟨_, .int _, i0⟩) (by decide)
          · refine th_list (show del H6 p q5 = some (.lst [.int 0, .bl false]) from (del_ne n5).trans m5) (fun z hz => ?_) (by decide)
            simp only [List.mem_cons, List.not_mem_nil, or_false] at hz
            rcases hz with rfl | rfl
            · exact ⟨_, .int _, i0⟩
            · exact ⟨_, .bl _, gd_bl _⟩
          · exact two (off_tup h6p m6) ⟨_, .int _, gd_int _ (by decide +kernel) (by decide +kernel)⟩ ⟨_, .bl _, gd_bl _⟩
        have el := Ext.new (o := .lst [.ref q1, .ref q2, .ref q3, .ref q4, .ref q5, .ref q6]) hl
        have k7 := upd_same (H := H6) (a := l) (o := HO.lst [.ref q1, .ref q2, .ref q3, .ref q4, .ref q5, .ref q6])
        have h7p := el _ _ h6p
        have e7 := e6.trans el
        generalize hL : ([.ref q1, .ref q2, .ref q3, .ref q4, .ref q5, .ref q6] : List V) = L at hth el k7 h7p e7 ⊢
        have lL : L.length = 6 := by rw [← hL]; rfl
        generalize upd H6 l (.lst L) = H7 at el k7 h7p e7 ⊢
        refine ⟨_, rfl, a, 6, rfl, hBd.up e7, by decide, by decide, fun r r0 r1 => ?_⟩
        obtain ⟨i, rfl⟩ : ∃ j : Nat, r = (j : Int) := ⟨r.toNat, by omega⟩
        have hi : i < L.length := by omega
        refine ⟨l, _, _, L[i], rfl, rfl, SqL.of k7, atI_nat (List.getElem?_eq_getElem hi), ?_⟩
        have ty := (hth _ (List.getElem_mem hi)).up (ext_del el) (Nat.le_refl 1)
        generalize L[i] = y at ty
        have h7b := e7 _ _ hbd
        refine ⟨_, rfl, _, rfl, p, _, _, _, rfl, rfl, SqL.of h7p, rfl, b, _, rfl, .inr (SqT.of h7b), a, _, rfl, hBd.up e7, by omega, by omega, fun r r0 r1 => ?_⟩
        obtain ⟨i2, rfl⟩ : ∃ j : Nat, r = (j : Int) := ⟨r.toNat, by omega⟩
        refine ⟨_, rfl, p, _, _, _, rfl, rfl, SqL.of h7p, rfl, _, rfl, _, rfl, sl_any h7b fun p1 H8 ea h8 => ?_⟩
        have e8 := e7.trans ea
        have h8p := ea _ _ h7p
        refine ⟨_, rfl, by show 1 ≤ sizeLine; decide, fun p2 hp2 => ?_⟩
        have eb := Ext.new (o := .tup [y]) hp2
        have k9 := upd_same (H := H8) (a := p2) (o := HO.tup [y])
        have h9p := eb _ _ h8p
        have e9 := e8.trans eb
        have c1 := cutV_length xs none (some (i2 : Int))
        have c2 := cutV_length xs (some ((i2 : Int) + 1)) none
        refine cat_any (eb _ _ h8) k9 (Nat.le_trans (show _ + 1 ≤ 60 by omega) (by decide)) fun p3 H10 ec h10 => ?_
        have h10p := ec _ _ h9p
        have e10 := e9.trans ec
        refine ⟨_, rfl, p, _, _, _, rfl, rfl, SqL.of h10p, rfl, _, rfl, _, _, rfl, rfl, _, rfl, ?_⟩
        dsimp only [tNoPart]
        refine sl_any (e10 _ _ hbd) fun p4 H11 ed h11 => ?_
        have h11p := ed _ _ h10p
        have e11 := e10.trans ed
        refine cat_any (ed _ _ h10) h11 (by rw [List.length_append]; exact Nat.le_trans (show _ + 1 + _ ≤ 60 by omega) (by decide)) fun p5 H12 ee h12 => ?_
        have h12p := ee _ _ h11p
        have e12 := e11.trans ee
        have e712 : Ext H7 H12 := (((ea.trans eb).trans ec).trans ed).trans ee
        refine ⟨_, rfl, p, _, _, 1, rfl, rfl, h12p, rfl, ?_⟩
        obtain ⟨u0, u1, u2⟩ := k3 e12
        refine hW _ _ (NearW.set 1 (by decide) hj e12 h12p u0 u1 u2 (tupC e12 h12p h12 (fun z hz => ?_) (by rw [List.length_append, List.length_append]; show _ + 1 + _ ≤ 60; omega)))
        rcases List.mem_append.mp hz with hz | hz
        · rcases List.mem_append.mp hz with hz | hz
          · exact (tS _ (cutV_sub _ hz)).up (ext e12) (Nat.le_refl _)
          · rw [List.mem_singleton.mp hz]
            exact ty.up (ext_del e712) (Nat.le_refl _)
        · exact (tS _ (cutV_sub _ hz)).up (ext e12) (Nat.le_refl _)
      · exact hW _ _ (NearW.skip ⟨x0, x1, x2, v6, v7, rfl, e5, h5p, t0, t1, t2, h5o⟩)
    clear e5 h5p t0 t1 t2 h5o
    -- the counts
    rintro σ' H5 ⟨x0, x1, x2, v6, v7, rfl, e5, h5p, t0, t1, t2, h5o⟩
    refine cutN (NearW H1 a m p (.ref sa) j x0n st.pl b c 4) (fun W hW => ?_) ?_
    · refine ⟨_, rfl, rfl, _, rfl, ?_⟩
      refine ite2 (fun g0 => ?_) (fun g0 => ?_)
      · have hj := (dec_eqI (k := 3)).mp g0
        obtain ⟨rfl, rfl, rfl⟩ := h5o (by omega)
        refine ⟨_, rfl, p, _, _, _, rfl, rfl, SqL.of h5p, rfl, c, _, rfl, .inr (SqT.of (e5 _ _ hcd)), fun l1 hl1 => ?_⟩
        obtain ⟨f1, f2⟩ := off_new (o := .lst (cV st.ct)) h5p hl1
        have ea := Ext.new (o := .lst (cV st.ct)) hl1
        have h6p := ea _ _ h5p
        have e6 := e5.trans ea
        generalize upd H5 l1 (.lst (cV st.ct)) = H6 at f1 f2 ea h6p e6 ⊢
        refine ⟨_, rfl, p, _, _, _, rfl, rfl, SqL.of h6p, rfl, _, rfl, ?_⟩
        dsimp only [tNoPart]
        refine sl_any (e6 _ _ hcd) fun p1 H7 eb h7 => ?_
        have e7 := e6.trans eb
        have h7p := eb _ _ h6p
        refine ⟨_, rfl, p, _, _, _, rfl, rfl, SqL.of h7p, rfl, by show 1 ≤ sizeLine; decide, fun p2 hp2 => ?_⟩
        have ec := Ext.new (o := .tup [.int 0]) hp2
        have k8 := upd_same (H := H7) (a := p2) (o := HO.tup [.int 0])
        have h8p := ec _ _ h7p
        have e8 := e7.trans ec
        have c1 := cutV_length (cV st.ct) (some 1) none
        refine cat_any (e8 _ _ hcd) k8 (Nat.le_trans (show _ + 1 ≤ 60 by omega) (by decide)) fun p3 H9 ed h9 => ?_
        have e9 := e8.trans ed
        have h9p := ed _ _ h8p
        intro p4 hp4
        refine ⟨by show 4 ≤ sizeLine; decide, fun l hl => ?_⟩
        have ee := Ext.new (o := .dK []) hp4
        have k4 := upd_same (H := H9) (a := p4) (o := HO.dK [])
        have h10p := ee _ _ h9p
        have e10 := e9.trans ee
        have n4 : p4 ≠ p := fun z => by rw [z, h9p] at hp4; cases hp4
        generalize upd H9 p4 (.dK []) = H10 at ee k4 h10p e10 hl ⊢
        have hth : ∀ y ∈ ([.ref l1, .ref p1, .ref p3, .ref p4] : List V), Th 3 y (del H10 p) := by
          intro y hy
          simp only [List.mem_cons, List.not_mem_nil, or_false] at hy
          rcases hy with rfl | rfl | rfl | rfl
          · exact (th_listM (n := 1) f2 (fun y hy => (tC y hy).up (ext e6) (by decide)) (by omega)).up (ext_del (((eb.trans ec).trans ed).trans ee)) (Nat.le_refl _)
          · exact (tupC e7 h7p h7 (fun y hy => (tC y (cutV_sub _ hy)).up (ext e7) (by decide)) (by omega)).up (ext_del ((ec.trans ed).trans ee)) (Nat.le_refl _)
          · refine (tupC e9 h9p h9 (fun y hy => ?_) (by rw [List.length_append]; show _ + 1 ≤ 60; omega)).up (ext_del ee) (Nat.le_refl _)
            rcases List.mem_append.mp hy with z | z
            · exact (tC y z).up (ext e9) (by decide)
            · rw [List.mem_singleton.mp z]
              exact ⟨_, .int _, (gd_small 0 (by decide)).up (by decide)⟩
          · exact ⟨_, .dct (show del H10 p p4 = some (.dK []) from (del_ne n4).trans k4) .nil, gd_dnil.up (by decide)⟩
        have el := Ext.new (o := .lst [.ref l1, .ref p1, .ref p3, .ref p4]) hl
        have k11 := upd_same (H := H10) (a := l) (o := HO.lst [.ref l1, .ref p1, .ref p3, .ref p4])
        have h11p := el _ _ h10p
        have e11 := e10.trans el
        generalize upd H10 l (.lst [.ref l1, .ref p1, .ref p3, .ref p4]) = H11 at el k11 h11p e11 ⊢
        refine ⟨_, rfl, a, 4, rfl, hBd.up e11, by decide, by decide, fun r r0 r1 => ?_⟩
        obtain ⟨i, rfl⟩ : ∃ j : Nat, r = (j : Int) := ⟨r.toNat, by omega⟩
        have hi : i < ([.ref l1, .ref p1, .ref p3, .ref p4] : List V).length := by show i < 4; omega
        refine ⟨l, _, _, _, rfl, rfl, SqL.of k11, atI_nat (List.getElem?_eq_getElem hi), _, rfl, p, _, _, 2, rfl, rfl, h11p, rfl, ?_⟩
        obtain ⟨u0, u1, u2⟩ := k3 e11
        exact hW _ _ (NearW.set 2 (by decide) hj e11 h11p u0 u1 u2 ((hth _ (List.getElem_mem hi)).up (ext_del el) (Nat.le_refl _)))
      · exact hW _ _ (NearW.skip ⟨x0, x1, x2, v6, v7, rfl, e5, h5p, t0, t1, t2, h5o⟩)
    clear e5 h5p t0 t1 t2 h5o
    -- a count
    rintro σ' H5 ⟨x0, x1, x2, v6, v7, rfl, e5, h5p, t0, t1, t2, h5o⟩
    refine cutN (NearW H1 a m p (.ref sa) j x0n st.pl b c 5) (fun W hW => ?_) ?_
    · refine ⟨_, rfl, rfl, _, rfl, ?_⟩
      refine ite2 (fun g0 => ?_) (fun g0 => ?_)
      · have hj := (dec_eqI (k := 4)).mp g0
        obtain ⟨rfl, rfl, rfl⟩ := h5o (by omega)
        refine ⟨_, rfl, p, _, _, _, rfl, rfl, SqL.of h5p, rfl, by show 0 ≤ sizeLine; decide, fun p0 hp0 => ?_⟩
        have ea := Ext.new (o := .tup []) hp0
        have k6 := upd_same (H := H5) (a := p0) (o := HO.tup [])
        have h6p := ea _ _ h5p
        have e6 := e5.trans ea
        generalize upd H5 p0 (.tup []) = H6 at ea k6 h6p e6 ⊢
        have h6c := e6 _ _ hcd
        refine ⟨cntD st.ct, .tuple [], sysUp hSy (eHd.trans e6), .tup h6c (cV_dq st.ct), .tup k6 .nil, sh_cnt st.ct, sh_cnt [], _, rfl, ?_⟩
        have ev : PyData.eqv (cntD st.ct) (.tuple []) = (cntL st.ct).isEmpty := eqv_te _
        rw [ev]
        cases hE : (cntL st.ct).isEmpty with
        | true =>
          refine iteF ?_
          exact hW _ _ (NearW.skip ⟨_, _, _, v6, v7, rfl, e6, h6p, t0.up (ext_del ea) (Nat.le_refl _), t1.up (ext_del ea) (Nat.le_refl _), t2.up (ext_del ea) (Nat.le_refl _), fun _ => ⟨rfl, rfl, rfl⟩⟩)
        | false =>
        refine iteT ?_
        have c0 : 1 ≤ st.ct.length := by
          cases hc : st.ct with
          | nil => rw [hc] at hE; cases hE
          | cons z zs => simp
        refine ⟨_, rfl, _, rfl, p, _, _, _, rfl, rfl, SqL.of h6p, rfl, c, _, rfl, .inr (SqT.of h6c), a, _, rfl, hBd.up e6, by rw [List.length_map]; omega, by rw [List.length_map]; omega, fun r r0 r1 => ?_⟩
        obtain ⟨i2, rfl⟩ : ∃ j : Nat, r = (j : Int) := ⟨r.toNat, by omega⟩
        refine ⟨_, rfl, p, _, _, _, rfl, rfl, SqL.of h6p, rfl, _, rfl, _, rfl, sl_any h6c fun p1 H8 ea' h8 => ?_⟩
        have e8 := e6.trans ea'
        have h8p := ea' _ _ h6p
        refine ⟨_, rfl, _, rfl, a, x0n, rfl, hBd.up e8, nx, fun y H8' ey hy => ?_⟩
        have ty := hy.up (nw_off h8p) (Nat.le_refl 1)
        have h8p' := ey _ _ h8p
        have e8' := e8.trans ey
        refine ⟨by show 1 ≤ sizeLine; decide, fun p2 hp2 => ?_⟩
        have eb := Ext.new (o := .tup [y]) hp2
        have k9 := upd_same (H := H8') (a := p2) (o := HO.tup [y])
        have h9p := eb _ _ h8p'
        have e9 := e8'.trans eb
        have c1 := cutV_length (cV st.ct) none (some (i2 : Int))
        have c2 := cutV_length (cV st.ct) (some ((i2 : Int) + 1)) none
        refine cat_any (eb _ _ (ey _ _ h8)) k9 (Nat.le_trans (show _ + 1 ≤ 60 by omega) (by decide)) fun p3 H10 ec h10 => ?_
        have h10p := ec _ _ h9p
        have e10 := e9.trans ec
        refine ⟨_, rfl, p, _, _, _, rfl, rfl, SqL.of h10p, rfl, _, rfl, _, _, rfl, rfl, _, rfl, ?_⟩
        dsimp only [tNoPart]
        refine sl_any (e10 _ _ hcd) fun p4 H11 ed h11 => ?_
        have h11p := ed _ _ h10p
        have e11 := e10.trans ed
        refine cat_any (ed _ _ h10) h11 (by rw [List.length_append]; exact Nat.le_trans (show _ + 1 + _ ≤ 60 by omega) (by decide)) fun p5 H12 ee h12 => ?_
        have h12p := ee _ _ h11p
        have e12 := e11.trans ee
        refine ⟨_, rfl, p, _, _, 2, rfl, rfl, h12p, rfl, ?_⟩
        obtain ⟨u0, u1, u2⟩ := k3 e12
        refine hW _ _ (NearW.set 2 (by decide) hj e12 h12p u0 u1 u2 (tupC e12 h12p h12 (fun z hz => ?_) (by rw [List.length_append, List.length_append]; show _ + 1 + _ ≤ 60; omega)))
        rcases List.mem_append.mp hz with hz | hz
        · rcases List.mem_append.mp hz with hz | hz
          · exact (tC _ (cutV_sub _ hz)).up (ext e12) (by decide)
          · rw [List.mem_singleton.mp hz]
            exact ty.up (ext_del (((eb.trans ec).trans ed).trans ee)) (Nat.le_refl _)
        · exact (tC _ (cutV_sub _ hz)).up (ext e12) (by decide)
      · exact hW _ _ (NearW.skip ⟨x0, x1, x2, v6, v7, rfl, e5, h5p, t0, t1, t2, h5o⟩)
    clear e5 h5p t0 t1 t2 h5o
    -- a part more or fewer
    rintro σ' H5 ⟨x0, x1, x2, v6, v7, rfl, e5, h5p, t0, t1, t2, h5o⟩
    have u0 := t0.up del_ext (Nat.le_refl 3)
    have u1 := t1.up del_ext (Nat.le_refl 3)
    have u2 := t2.up del_ext (Nat.le_refl 3)
    have all3 : ∀ y ∈ [x0, x1, x2], Th 3 y H5 := fun y hy => by
      simp only [List.mem_cons, List.not_mem_nil, or_false] at hy
      rcases hy with rfl | rfl | rfl
      · exact u0
      · exact u1
      · exact u2
    refine cutN (fun σ' H' => ∃ p' L v6 v7, σ' = [some (.ref a), some (.ref m), some (.ref sa), some (.ref p'), some (.int (j : Int)), some (.str x0n), v6, v7] ∧ Ext (del H1 p) H' ∧ H' p' = some (.lst L) ∧ L.length ≤ 4 ∧ ∀ y ∈ L, Th 3 y H') (fun W hW => ?_) ?_
    · refine ⟨_, rfl, rfl, _, rfl, ?_⟩
      refine ite2 (fun g0 => ?_) (fun g0 => ?_)
      · refine ⟨_, rfl, a, 2, rfl, hBd.up e5, by decide, by decide, fun r r0 r1 => ⟨rfl, _, rfl, ?_⟩⟩
        refine ite2 (fun _ => ?_) (fun _ => ?_)
        · refine ⟨_, rfl, _, rfl, p, _, rfl, SqL.of h5p, fun p1 hp1 => ?_⟩
          have ea := Ext.new (o := .lst (cutV [x0, x1, x2] none (some 2))) hp1
          have c1 := cutV_length [x0, x1, x2] none (some 2)
          exact hW _ _ ⟨p1, _, _, _, rfl, e5.trans ea, upd_same, Nat.le_trans c1 (by show 3 ≤ 4; decide), fun y hy => (all3 y (cutV_sub _ hy)).up ea (Nat.le_refl _)⟩
        · refine ⟨_, rfl, by show 1 ≤ sizeLine; decide, fun p1 hp1 => ?_⟩
          have ea := Ext.new (o := .lst [.int 0]) hp1
          refine ⟨p, p1, _, _, rfl, rfl, ea _ _ h5p, upd_same, by show 3 + 1 ≤ sizeLine; decide, fun p2 hp2 => ?_⟩
          have eb := Ext.new (o := .lst ([x0, x1, x2] ++ [.int 0])) hp2
          refine hW _ _ ⟨p2, _, _, _, rfl, (e5.trans ea).trans eb, upd_same, by show 4 ≤ 4; decide, fun y hy => ?_⟩
          rcases List.mem_append.mp hy with hy | hy
          · exact (all3 y hy).up (ea.trans eb) (Nat.le_refl _)
          · rw [List.mem_singleton.mp hy]
            exact ⟨_, .int _, (gd_small 0 (by decide)).up (by decide)⟩
      · exact hW _ _ ⟨p, _, _, _, rfl, e5, h5p, by show 3 ≤ 4; decide, all3⟩
    clear e5 h5p t0 t1 t2 h5o u0 u1 u2 all3
    -- another value
    rintro σ' H6 ⟨p', L, v6, v7, rfl, e6, h6p, l4, hL⟩
    refine cutN (fun σ' H' => ∃ v6 v7, σ' = [some (.ref a), some (.ref m), some (.ref sa), some (.ref p'), some (.int (j : Int)), some (.str x0n), v6, v7] ∧ H' = H6) (fun W hW => ?_) ?_
    · refine ⟨_, rfl, rfl, _, rfl, ?_⟩
      refine ite2 (fun g0 => ?_) (fun g0 => ?_)
      · refine ⟨_, rfl, _, rfl, _, rfl, a, x0n, rfl, hBd.up e6, nx, fun y H7 ey hy => ⟨by show 2 ≤ sizeLine; decide, fun l hl => ?_⟩⟩
        have el := Ext.new (o := .lst [.ref p', y]) hl
        have ty := hy.up nw_ext (Nat.le_refl 1)
        have tp : Th 4 (.ref p') H7 := (th_list (ey _ _ h6p) (fun z hz => (hL z hz).up ey (Nat.le_refl _)) (by omega))
        have e8 := (e6.trans ey).trans el
        refine ⟨_, rfl, a, 2, rfl, hBd.up e8, by decide, by decide, fun r r0 r1 => ?_⟩
        obtain ⟨i, rfl⟩ : ∃ j : Nat, r = (j : Int) := ⟨r.toNat, by omega⟩
        have hi : i < ([.ref p', y] : List V).length := by show i < 2; omega
        refine ⟨l, _, _, _, rfl, rfl, SqL.of upd_same, atI_nat (List.getElem?_eq_getElem hi), ?_⟩
        refine q _ _ (eHd.trans e8) ?_
        have : ∀ z ∈ ([.ref p', y] : List V), Th 5 z (upd H7 l (.lst [.ref p', y])) := fun z hz => by
          simp only [List.mem_cons, List.not_mem_nil, or_false] at hz
          rcases hz with rfl | rfl
          · exact tp.up el (by decide)
          · exact ty.up el (by decide)
        exact this _ (List.getElem_mem hi)
      · exact hW _ _ ⟨_, _, rfl, rfl⟩
    rintro σ' H7 ⟨v6, v7, rfl, rfl⟩
    refine ⟨_, rfl, p', _, rfl, .inl ⟨SqL.of h6p, fun t ht => ?_⟩⟩
    have et := Ext.new (o := .tup L) ht
    exact q _ _ ((eHd.trans e6).trans et) ((th_tuple upd_same (fun y hy => (hL y hy).up et (Nat.le_refl _)) (by omega)).up (Ext.refl _) (by decide))
end
end K28

set_option Elab.async false
set_option linter.all false
set_option maxRecDepth 100000
set_option maxHeartbeats 4000000
namespace K28
open PySem PySem.Spec PyProof.Rows L2 Ol RZ
open TL (tl)
theorem bl_ok (b : Bool) : SeqAt.shaped (.bool b) = true ∧ Fits (.bool b) := by
  refine ⟨lay_shaped (by simp [PyData.canLay0]) (by simp [PyData.depth]), ⟨by simp [PyData.showable], by simp [PyData.depth], ?_⟩⟩
  exact Nat.le_trans (gd_bl b).len (by decide)
def cl (z : Int) : Nat := (if z > 0 then z else 0).toNat
theorem cl_eq (z : Int) : (if z > 0 then z else 0) = ((cl z : Nat) : Int) := by
  unfold cl
  split <;> omega
section
variable {P : Program} {w : World} {K : PySem.W.Frag} {mg : Str → Option Value} {base : Heap} {C CP S : Addr}
/-! ### _law_above_right -/
def spAbR (S C CP : Addr) : Sp := fun vs H Q _ => ∃ (a m p : Addr) (g : Int) (ps : List (Str × Int)) (sv : List Place) (kx ks : List Knd) (ns : List Str) (M : Nat) (v : V) (s : Std), vs = [.ref a, .ref m, .ref p, v] ∧ Sys H ∧ Bag H a ∧ MdlAt H m ps sv kx ∧ GMdl g ps sv kx ∧ g ≤ 3 ∧
  ns.Perm (ps.map (·.1)) ∧ sortedS ns = true ∧ SysAt S C CP H p ns (ns.map (bdOf ps)) sv ks ∧ Dq H v (stgD s) ∧ s.ct.length = M ∧ M ≤ 20 ∧ ∀ H', Ext H H' → Q (.bl true) H'
abbrev s__law_above_right : Stmt := (topS 56)
theorem sc__law_above_right : FnScope ["_law_bag_here", "_law_model_here", "_law_system", "_law_standing_here", "_law_place", "_law_content_here", "_law_counts", "_law_other", "_law_turn", "_law_second", "_law_style", "_law_one", "_law_two", "_law_less", "_law_k"] ["_law_bag_here", "_law_model_here", "_law_system", "_law_standing_here"] (defScope s__law_above_right) := ⟨rfl, rfl, rfl, by decide +kernel, rfl, by decide +kernel, by decide +kernel⟩
abbrev nAR : List Str := ["_law_bag_here", "_law_model_here", "_law_system", "_law_standing_here"]
theorem ok_abr {f : Addr} {fd : FuncData} (F : Fun K "_law_above_right" "_law_above_right" s__law_above_right f fd) (T : BT mg) (nMax : mg "max" = none) (SL : ST K mg S)
    (CT : Ca P w K mg base 1 "_law_take" ["_law_bag_here", "_law_many"] spTake) (CCt : Ca P w K mg base 3 "_law_content" ["_law_bag_here", "_law_bounds_here"] spLContent)
    (CA : Cg P w K mg base 1 "_law_alike" ["_law_found", "_law_due"] spAlike) (MAb : Cm P w K mg base S 1 "is_above" ["self", "one", "other"] (spAbove S C CP)) :
    FnG P w K mg base 4 f fd nAR (spAbR S C CP) := by
  refine okG F sc__law_above_right (fun vs H Q E h => ?_) (fun cdv A outer s H vs Q E hG hr h => ?_)
  · obtain ⟨a, m, p, g, ps, sv, kx, ks, ns, M, v, s, rfl, _⟩ := h
    rfl
  · obtain ⟨a, m, p, g, ps, sv, kx, ks, ns, M, v, st, rfl, hSy, hB, hM, hGm, g3, hperm, hso, hS, hv, hM1, hM2, q⟩ := h
    refine ⟨_, (pss_cons (ps_asg (pv 3) (pg_tup (by rfl) (pgs_cons (pg_name (i := 4) sc__law_above_right.nd rfl (.inl rfl)) (pgs_cons (pg_name (i := 5) sc__law_above_right.nd rfl (.inl rfl)) (pgs_cons (pg_name (i := 6) sc__law_above_right.nd rfl (.inl rfl)) pgs_nil)))))
    (pss_cons (ps_set (i := 7) sc__law_above_right.nd rfl (.inl rfl) (pe_callTy call_list_of (by rfl) T.n_list (by decide +kernel) (pa_cons (pv 6) pa_nil)))
    (pss_cons (ps_for PassesOwn.never rfl (pi_range1 (by rfl) T.n_range (pa_cons (pe_ca CT (hr.mono (by decide)) (by rfl) (pa_cons (pv 0) (pa_cons pe_int pa_nil))) pa_nil)) (pg_name (i := 8) sc__law_above_right.nd rfl (.inl rfl))
      (pss_one (ps_if (pt_cmpR (op_neQ hr) (pv 6) (pe_tup pa_nil) (nomark _))
        (pss_one (ps_augS (pv 7) (pe_ca CT (hr.mono (by decide)) (by rfl) (pa_cons (pv 0) (pa_cons (pe_callB call_len_seq (by rfl) T.n_len (by decide +kernel) (pa_cons (pv 6) pa_nil)) pa_nil))) get_list (pe_ix ix_list (pe_lst (pa_cons pe_int (pa_cons (pe_un un_neg pe_int) (pa_cons pe_int pa_nil)))) (pe_ca CT (hr.mono (by decide)) (by rfl) (pa_cons (pv 0) (pa_cons pe_int pa_nil))) (fun _ _ => rfl)) ip_add set_list))
        pss_nil)))
    (pss_cons (ps_set (i := 9) sc__law_above_right.nd rfl (.inl rfl) (pe_tup (pa_cons (pv 4) (pa_cons (pv 5) (pa_cons (pe_callTy call_tuple_of (by rfl) T.n_tuple (by decide +kernel) (pa_cons (pe_lc (own := [("_law_one", 11)]) (g := gName 11) (tt := tYes) rfl sc__law_above_right.nd (pi_list (pv 7)) (blkOk_by (N := ["_law_bag_here", "_law_model_here", "_law_system", "_law_standing_here", "_law_place", "_law_content_here", "_law_counts", "_law_other", "_law_turn", "_law_second", "_law_style", "_law_one", "_law_two", "_law_less", "_law_k"]) (sc := defScope s__law_above_right) (by decide +kernel)) (fun _ _ _ _ _ => (pg_name (i := 11) sc__law_above_right.nd rfl (.inl rfl))) (fun _ _ _ _ _ => pts_nil) (fun _ _ _ _ _ => (pe_callB (call_max2 rfl) (by rfl) nMax (by decide +kernel) (pa_cons pe_int (pa_cons (pv 11) pa_nil))))) pa_nil)) pa_nil)))))
    (pss_cons (ps_set (i := 10) sc__law_above_right.nd rfl (.inl rfl) (pe_ca CT (hr.mono (by decide)) (by rfl) (pa_cons (pv 0) (pa_cons pe_int pa_nil))))
    (pss_cons (ps_if (pt_cmpR op_eq (pv 10) pe_int (nomark _))
      (pss_one (ps_set (i := 9) sc__law_above_right.nd rfl (.inl rfl) (pe_tup (pa_cons (pe_ca CT (hr.mono (by decide)) (by rfl) (pa_cons (pv 0) (pa_cons (pe_callB call_len_seq (by rfl) T.n_len (by decide +kernel) (pa_cons (pe_dget (hu_of hr) (pv 1) pe_str (fun _ _ => rfl)) pa_nil)) pa_nil))) (pa_cons (pv 5) (pa_cons (pe_ix ix_tup (pv 9) pe_int (fun _ _ => rfl)) pa_nil))))))
      pss_nil)
    (pss_cons (ps_if (pt_cmpR op_eq (pv 10) pe_int (nomark _))
      (pss_one (ps_set (i := 9) sc__law_above_right.nd rfl (.inl rfl) (pe_tup (pa_cons (pv 4) (pa_cons (pe_ca CCt (hr.mono (by decide)) (by rfl) (pa_cons (pv 0) (pa_cons (pe_dget (hu_of hr) (pv 1) pe_str (fun _ _ => rfl)) pa_nil))) (pa_cons (pe_ix ix_tup (pv 9) pe_int (fun _ _ => rfl)) pa_nil))))))
      pss_nil)
    (pss_cons (ps_for PassesOwn.never rfl (pi_tup (pe_tup (pa_cons (pe_tup (pa_cons (pv 3) (pa_cons (pv 9) pa_nil))) (pa_cons (pe_tup (pa_cons (pv 9) (pa_cons (pv 3) pa_nil))) (pa_cons (pe_tup (pa_cons (pv 3) (pa_cons (pv 3) pa_nil))) pa_nil))))) (pg_tup (by rfl) (pgs_cons (pg_name (i := 11) sc__law_above_right.nd rfl (.inr rfl)) (pgs_cons (pg_name (i := 12) sc__law_above_right.nd rfl (.inr rfl)) pgs_nil)))
      (pss_cons (ps_setLc (i := 13) (own := [("_law_k", 14)]) (g := gName 14) (tt := _) rfl sc__law_above_right.nd rfl rfl (sw_true rfl rfl rfl (by decide +kernel)) (pi_range1 (by rfl) T.n_range (pa_cons (pe_callB call_len_seq (by rfl) T.n_len (by decide +kernel) (pa_cons (pe_ix ix_tup (pv 11) pe_int (fun _ _ => rfl)) pa_nil)) pa_nil)) (blkOk_by (N := ["_law_bag_here", "_law_model_here", "_law_system", "_law_standing_here", "_law_place", "_law_content_here", "_law_counts", "_law_other", "_law_turn", "_law_second", "_law_style", "_law_one", "_law_two", "_law_less", "_law_k"]) (sc := defScope s__law_above_right) (by decide +kernel)) (fun _ _ _ _ _ => (pg_name (i := 14) sc__law_above_right.nd rfl (.inl rfl))) (fun _ _ _ _ _ => (pts_one (pt_cmpR op_lt (pe_ix (r := rIxT K) ix_tup (pe_ix (r := rIxT K) ix_tup (pv 11) pe_int (fun _ _ => rfl)) (pv 14) (fun _ _ => rfl)) (pe_ix (r := rIxT K) ix_tup (pe_ix (r := rIxT K) ix_tup (pv 12) pe_int (fun _ _ => rfl)) (pv 14) (fun _ _ => rfl)) (nomark _)))) (fun _ _ _ _ _ => (pv 14)))
      (pss_one (ps_if (pt_not (pt_val (pe_cg CA hG (hr.mono (by decide)) (by rfl) (pa_cons (pe_cm MAb SL.cl (hr.mono (by decide)) (pv 2) (pa_cons (pv 11) (pa_cons (pv 12) pa_nil))) (pa_cons (pe_and (pe_cmpR (op_eqQ hr) (pe_slice sl_tupA (pv 11) po_none (po_some pe_int)) (pe_slice sl_tupA (pv 12) po_none (po_some pe_int)) (nomark _)) (pe_one (pe_cmpR (op_eqE hr) (pv 13) (pe_lst pa_nil) (nomark _)))) pa_nil)))))
        (pss_one (ps_ret pe_bl))
        pss_nil))))
    (pss_one (ps_ret pe_bl)))))))))), ?_⟩
    obtain ⟨sa, b, c, xs, rfl, v1, v2, v3, v4⟩ := stg_inv hv
    have lc : (cV st.ct).length = M := by rw [List.length_map]; exact hM1
    refine ⟨_, rfl, sa, _, rfl, SqT.of v1, rfl, _, _, rfl, _, _, rfl, _, _, rfl, rfl, ?_⟩
    refine ⟨_, rfl, c, _, rfl, .inr (SqT.of v4), fun o ho => ?_⟩
    have e1 := Ext.new (o := .lst (cV st.ct)) ho
    have h1o := upd_same (H := H) (a := o) (o := HO.lst (cV st.ct))
    have cVi : cV st.ct = (st.ct.map fun n : Nat => (n : Int)).map V.int := by rw [List.map_map]; rfl
    generalize upd H o (.lst (cV st.ct)) = H1 at e1 h1o ⊢
    rw [cVi] at h1o
    have lz0 : (st.ct.map fun n : Nat => (n : Int)).length = M := by rw [List.length_map]; exact hM1
    generalize (st.ct.map fun n : Nat => (n : Int)) = z0 at h1o lz0
    have eHd : Ext H (del H1 o) := ext_to e1 ho
    have hc1 : del H1 o c = some (.tup (cV st.ct)) := eHd _ _ v4
    dsimp only [gName]
    refine cutN (fun σ' H' => ∃ (s8 : Option V) (zs : List Int), σ' = [some (.ref a), some (.ref m), some (.ref p), some (.ref sa), some (.int (st.pl : Int)), some (.ref b), some (.ref c), some (.ref o), s8, none, none, none, none, none, none] ∧ Ext (del H1 o) H' ∧ H' o = some (.lst (zs.map V.int)) ∧ zs.length = M) (fun W hW => ?_) ?_
    · refine ⟨_, rfl, a, 3, rfl, hB.up e1, by decide, by decide, fun r r0 r1 => ⟨_, rfl, by omega, by omega, ?_⟩⟩
      obtain ⟨t, rfl⟩ : ∃ j : Nat, r = (j : Int) := ⟨r.toNat, by omega⟩
      rw [Int.toNat_natCast]
      refine for_range (n := t) (fun i σ' H' => ∃ (s8 : Option V) (zs : List Int), σ' = [some (.ref a), some (.ref m), some (.ref p), some (.ref sa), some (.int (st.pl : Int)), some (.ref b), some (.ref c), some (.ref o), s8, none, none, none, none, none, none] ∧ Ext (del H1 o) H' ∧ H' o = some (.lst (zs.map V.int)) ∧ zs.length = M)
        ⟨_, z0, rfl, del_ext, h1o, lz0⟩ ?_ (fun σ H' h => hW σ H' h)
      rintro i σ' H2 hi ⟨s8, zs, rfl, e2, h2o, lz⟩
      refine ⟨_, rfl, by show 0 ≤ sizeLine; decide, fun p0 hp0 => ?_⟩
      have ea := Ext.new (o := .tup []) hp0
      have k3 := upd_same (H := H2) (a := p0) (o := HO.tup [])
      have h3o := ea _ _ h2o
      have e3 := e2.trans ea
      generalize upd H2 p0 (.tup []) = H3 at ea k3 h3o e3 ⊢
      have h3c := e3 _ _ hc1
      have hB3 := (hB.up eHd).up e3
      refine ⟨cntD st.ct, .tuple [], sysUp hSy (eHd.trans e3), .tup h3c (cV_dq st.ct), .tup k3 .nil, sh_cnt st.ct, sh_cnt [], _, rfl, ?_⟩
      have ev : PyData.eqv (cntD st.ct) (.tuple []) = (cntL st.ct).isEmpty := eqv_te _
      rw [ev]
      cases hE : (cntL st.ct).isEmpty with
      | true =>
        refine iteF ?_
        exact ⟨_, zs, rfl, e3, h3o, lz⟩
      | false =>
      refine iteT ?_
      have c0 : 1 ≤ M := by
        cases hc : st.ct with
        | nil => rw [hc] at hE; cases hE
        | cons z zs => rw [← hM1, hc]; simp
      refine ⟨_, rfl, _, rfl, _, rfl, c, _, rfl, .inr (SqT.of h3c), a, _, rfl, hB3, by rw [lc]; omega, by rw [lc]; omega, fun r r0 r1 => ?_⟩
      obtain ⟨j, rfl⟩ : ∃ j : Nat, r = (j : Int) := ⟨r.toNat, by omega⟩
      have hj : j < zs.length := by omega
      refine ⟨o, _, j, .int zs[j], rfl, rfl, SqL.of h3o, by rw [List.getElem?_map, List.getElem?_eq_getElem hj]; rfl, ?_⟩
      refine ⟨_, rfl, by show 3 ≤ sizeLine; decide, fun l hl => ?_⟩
      have eb := Ext.new (o := .lst [.int 1, .int (-1), .int 2]) hl
      have e4 := e3.trans eb
      have h4o := eb _ _ h3o
      have k4 := upd_same (H := H3) (a := l) (o := HO.lst [.int 1, .int (-1), .int 2])
      generalize upd H3 l (.lst [.int 1, .int (-1), .int 2]) = H4 at eb e4 h4o k4 ⊢
      refine ⟨_, rfl, a, 3, rfl, hB3.up eb, by decide, by decide, fun r r0 r1 => ?_⟩
      obtain ⟨k, rfl⟩ : ∃ j : Nat, r = (j : Int) := ⟨r.toNat, by omega⟩
      obtain ⟨y, hy⟩ : ∃ y : Int, ([.int 1, .int (-1), .int 2] : List V)[k]? = some (.int y) := by
        have : k = 0 ∨ k = 1 ∨ k = 2 := by omega
        rcases this with rfl | rfl | rfl <;> exact ⟨_, rfl⟩
      refine ⟨l, _, _, _, rfl, rfl, SqL.of k4, atI_nat hy, _, _, rfl, rfl, o, _, _, j, rfl, rfl, h4o, ixN_at (by rw [List.length_map]; exact hj), ?_⟩
      refine ⟨_, zs.set j (zs[j] + y), rfl, Ext.mut e4 del_same, ?_, by rw [List.length_set]; exact lz⟩
      rw [upd_same]
      exact congrArg (fun z => some (HO.lst z)) (List.map_set (f := V.int) (l := zs) (i := j) (a := zs[j] + y)).symm
    rintro σ' H2 ⟨s8, zs, rfl, e2, h2o, lz⟩
    -- the second one
    refine ⟨_, rfl, _, rfl, _, rfl, o, rfl, ⟨_, SqL.of h2o⟩, fun D hD => ?_⟩
    have lzm : (zs.map V.int).length = M := by rw [List.length_map]; exact lz
    refine lc1_acc (walk_list (xs := zs.map V.int)) (fun i ys _ => ys = cV ((zs.take i).map cl) ∧ i ≤ 20) (fun _ _ _ _ _ h => h) ⟨rfl, by decide⟩ hD
      (fun i ys _ ⟨h, h2⟩ => by rw [h, List.length_map, List.length_map, List.length_take]; exact Nat.lt_of_le_of_lt (show _ ≤ 20 by omega) (by decide)) (fun H' e => SqL.of (e _ _ h2o)) ?_ ?_
    · rintro i x Hi H' ys hi e hy ⟨rfl, hxi⟩ ⟨rfl, _⟩ QY QN kY kN
      have hi2 : i < zs.length := by omega
      rw [List.getElem?_map, List.getElem?_eq_getElem hi2] at hxi
      cases hxi
      refine ⟨rfl, ?_⟩
      refine tyes ?_
      refine ⟨_, rfl, _, _, rfl, ?_⟩
      rw [cl_eq]
      refine kY _ _ (Ext.refl _) ⟨?_, by omega⟩
      rw [List.take_add_one, List.getElem?_eq_getElem hi2, Option.toList_some, List.map_append]
      exact (List.map_append (f := fun n : Nat => V.int (n : Int)) (l₁ := (zs.take i).map cl) (l₂ := [cl zs[i]])).symm
    rintro H3 ys e3 h3D ⟨rfl, _⟩
    rw [lzm, ← lz, List.take_length] at h3D
    refine ⟨D, _, rfl, .inl ⟨SqL.of h3D, fun t1 ht1 => ⟨by show 3 ≤ sizeLine; decide, fun s2 hs2 => ?_⟩⟩⟩
    have e4 := Ext.new (o := .tup (cV (zs.map cl))) ht1
    have k4 := upd_same (H := H3) (a := t1) (o := HO.tup (cV (zs.map cl)))
    have e5 := Ext.new (o := .tup [.int (st.pl : Int), .ref b, .ref t1]) hs2
    have k5 := upd_same (H := upd H3 t1 (.tup (cV (zs.map cl)))) (a := s2) (o := HO.tup [.int (st.pl : Int), .ref b, .ref t1])
    have k4' := e5 _ _ k4
    have e25 := e3.trans (e4.trans e5)
    generalize upd (upd H3 t1 (.tup (cV (zs.map cl)))) s2 (.tup [.int (st.pl : Int), .ref b, .ref t1]) = H5 at e25 k5 k4' ⊢
    have e05 : Ext H H5 := eHd.trans (e2.trans e25)
    have hv5 : Dq H5 (.ref sa) (stgD st) := hv.up e05
    have hw5 : Dq H5 (.ref s2) (stgD ⟨st.pl, st.cs, zs.map cl⟩) := stg_mk (s := ⟨st.pl, st.cs, zs.map cl⟩) k5 (e05 _ _ v2) (DqAll.up e05 v3) k4'
    have lw : (zs.map cl).length = M := by rw [List.length_map]; exact lz
    have hB5 := hB.up e05
    have hM5 := hM.up e05
    have hS5 := hS.up e05
    have hSy5 := sysUp hSy e05
    have h5b := e05 _ _ v2
    have h5z := DqAll.up e05 v3
    clear e25 k5 k4' e4 k4 e5 e2 h2o e3 h3D
    refine ⟨_, rfl, a, 4, rfl, hB5, by decide, by decide, fun r r0 r1 => ?_⟩
    obtain ⟨j, rfl⟩ : ∃ j : Nat, r = (j : Int) := ⟨r.toNat, by omega⟩
    dsimp only [gName]
    generalize zs.map cl = c2 at hw5 lw
    refine cutN (fun σ' H' => ∃ (w : V) (sd : Std), σ' = [some (.ref a), some (.ref m), some (.ref p), some (.ref sa), some (.int (st.pl : Int)), some (.ref b), some (.ref c), some (.ref o), s8, some w, some (.int (j : Int)), none, none, none, none] ∧ Ext H5 H' ∧ Dq H' w (stgD sd) ∧ sd.ct.length = M) (fun W hW => ?_) ?_
    · refine ⟨_, rfl, rfl, _, rfl, ?_⟩
      refine ite2 (fun _ => ?_) (fun _ => ?_)
      · obtain ⟨db, sl, dk, at_, hm, hdb, ⟨zs', l1, l2⟩, hdk, hkl, nmk, nbk⟩ := id hM5
        have lz' : zs'.length = sv.length := by rw [l2.len, List.length_map]
        have s1 := hGm.s1
        have s5 := hGm.s5
        obtain ⟨x1, x2, x3, ws, ex, w1, w2, w3, w4⟩ := stg_inv hw5
        cases ex
        refine ⟨_, rfl, _, rfl, m, _, rfl, get_s hm, sl, _, rfl, .inl (SqL.of l1), a, _, rfl, hB5, by omega, by omega, fun r r0 r1 => ?_⟩
        obtain ⟨i, rfl⟩ : ∃ j : Nat, r = (j : Int) := ⟨r.toNat, by omega⟩
        refine ⟨_, rfl, _, rfl, s2, _, _, _, rfl, rfl, SqT.of w1, rfl, by show 3 ≤ sizeLine; decide, fun t2 ht2 => ?_⟩
        have e6 := Ext.new (o := .tup [.int (i : Int), .ref b, .ref x3]) ht2
        exact hW _ _ ⟨_, ⟨i, st.cs, c2⟩, rfl, e6, stg_mk (s := ⟨i, st.cs, c2⟩) upd_same (e6 _ _ h5b) (DqAll.up e6 h5z) (e6 _ _ w4), lw⟩
      · exact hW _ _ ⟨_, _, rfl, Ext.refl _, hw5, lw⟩
    clear hw5 lw
    rintro σ' H6 ⟨w, sd, rfl, e6, hw6, lw6⟩
    refine cutN (fun σ' H' => ∃ (w : V) (sd : Std), σ' = [some (.ref a), some (.ref m), some (.ref p), some (.ref sa), some (.int (st.pl : Int)), some (.ref b), some (.ref c), some (.ref o), s8, some w, some (.int (j : Int)), none, none, none, none] ∧ Ext H5 H' ∧ Dq H' w (stgD sd) ∧ sd.ct.length = M) (fun W hW => ?_) ?_
    · refine ⟨_, rfl, rfl, _, rfl, ?_⟩
      refine ite2 (fun _ => ?_) (fun _ => ?_)
      · obtain ⟨db, sl, dk, at_, hm, hdb, _⟩ := hM5.up e6
        have nnd : ns.Nodup := hperm.nodup_iff.mpr hGm.nd
        obtain ⟨x1, x2, x3, ws, rfl, w1, w2, w3, w4⟩ := stg_inv hw6
        refine ⟨_, rfl, _, rfl, _, rfl, m, _, rfl, get_b hm, a, db, ps, ns, rfl, hB5.up e6, hdb, hGm.p3, hperm, nnd, hso, fun x hx => hGm.bd3 g3 (hperm.mem_iff.mp hx), fun v' H7 st' e7 hv' _ => ?_⟩
        obtain ⟨y2, ys2, rfl, y1, y3, _⟩ := ct_inv hv'
        refine ⟨_, rfl, x1, _, _, _, rfl, rfl, SqT.of (e7 _ _ w1), rfl, by show 3 ≤ sizeLine; decide, fun t2 ht2 => ?_⟩
        have e8 := Ext.new (o := .tup [.int (st.pl : Int), .ref y2, .ref x3]) ht2
        exact hW _ _ ⟨_, ⟨st.pl, ns.map st', sd.ct⟩, rfl, e6.trans (e7.trans e8), stg_mk (s := ⟨st.pl, ns.map st', sd.ct⟩) upd_same (e8 _ _ y1) (DqAll.up e8 y3) (e8 _ _ (e7 _ _ w4)), lw6⟩
      · exact hW _ _ ⟨_, _, rfl, e6, hw6, lw6⟩
    clear e6 hw6 lw6
    rintro σ' H6 ⟨w, sd, rfl, e6, hw6, lw6⟩
    have hv6 := hv5.up e6
    -- the three questions
    refine ⟨_, rfl, _, rfl, by show 2 ≤ sizeLine; decide, fun t1 h1 => ⟨_, rfl, _, rfl, by show 2 ≤ sizeLine; decide, fun t2 h2 => ⟨_, rfl, _, rfl, by show 2 ≤ sizeLine; decide, fun t3 h3 => ⟨by show 3 ≤ sizeLine; decide, fun t4 h4 => ?_⟩⟩⟩⟩
    have z1 := Ext.new (o := .tup [.ref sa, w]) h1
    have z2 := Ext.new (o := .tup [w, .ref sa]) h2
    have z3 := Ext.new (o := .tup [.ref sa, .ref sa]) h3
    have z4 := Ext.new (o := .tup [.ref t1, .ref t2, .ref t3]) h4
    have m1 := z4 _ _ (z3 _ _ (z2 _ _ (upd_same (H := H6) (a := t1) (o := HO.tup [.ref sa, w]))))
    have m2 := z4 _ _ (z3 _ _ (upd_same (H := upd H6 t1 (.tup [.ref sa, w])) (a := t2) (o := HO.tup [w, .ref sa])))
    have m3 := z4 _ _ (upd_same (H := upd (upd H6 t1 (.tup [.ref sa, w])) t2 (.tup [w, .ref sa])) (a := t3) (o := HO.tup [.ref sa, .ref sa]))
    have m4 := upd_same (H := upd (upd (upd H6 t1 (.tup [.ref sa, w])) t2 (.tup [w, .ref sa])) t3 (.tup [.ref sa, .ref sa])) (a := t4) (o := HO.tup [.ref t1, .ref t2, .ref t3])
    have z14 := ((z1.trans z2).trans z3).trans z4
    generalize upd (upd (upd (upd H6 t1 (.tup [.ref sa, w])) t2 (.tup [w, .ref sa])) t3 (.tup [.ref sa, .ref sa])) t4 (.tup [.ref t1, .ref t2, .ref t3]) = H7 at m1 m2 m3 m4 z14 ⊢
    clear z1 z2 z3 z4
    have hv7 := hv6.up z14
    have hw7 := hw6.up z14
    have e57 := e6.trans z14
    have each : ∀ (i : Nat) (x : V), ([.ref t1, .ref t2, .ref t3] : List V)[i]? = some x → ∃ (t : Addr) (u1 u2 : V) (d1 d2 : Std), x = .ref t ∧ H7 t = some (.tup [u1, u2]) ∧ Dq H7 u1 (stgD d1) ∧ Dq H7 u2 (stgD d2) ∧ d1.ct.length = M ∧ d2.ct.length = M := by
      intro i x hx
      match i, hx with
      | 0, hx => cases hx; exact ⟨t1, _, _, st, sd, rfl, m1, hv7, hw7, hM1, lw6⟩
      | 1, hx => cases hx; exact ⟨t2, _, _, sd, st, rfl, m2, hw7, hv7, lw6, hM1⟩
      | 2, hx => cases hx; exact ⟨t3, _, _, st, st, rfl, m3, hv7, hv7, hM1, hM1⟩
      | k + 3, hx => simp at hx
    refine ⟨t4, rfl, ⟨_, SqT.of m4⟩, ?_⟩
    refine for_tup (xs := [.ref t1, .ref t2, .ref t3]) (fun i σ' H' => ∃ s11 s12 s13, σ' = [some (.ref a), some (.ref m), some (.ref p), some (.ref sa), some (.int (st.pl : Int)), some (.ref b), some (.ref c), some (.ref o), s8, some w, some (.int (j : Int)), s11, s12, s13, none] ∧ Ext H7 H')
      ⟨_, _, _, rfl, Ext.refl _⟩ (fun i σ H' _ ⟨_, _, _, _, e⟩ => SqT.of (e _ _ m4)) ?_ ?_
    · rintro i x σ' H8 hx ⟨s11, s12, s13, rfl, e8⟩
      obtain ⟨t, u1, u2, d1, d2, rfl, ht, hu1, hu2, l1, l2⟩ := each i x hx
      refine ⟨t, _, rfl, SqT.of (e8 _ _ ht), rfl, _, _, rfl, _, _, rfl, rfl, ?_⟩
      have hu1' := hu1.up e8
      have hu2' := hu2.up e8
      obtain ⟨a1, a2, a3, as, rfl, a4, a5, a6, a7⟩ := stg_inv hu1'
      obtain ⟨b1, b2, b3, bs, rfl, b4, b5, b6, b7⟩ := stg_inv hu2'
      have la : (cV d1.ct).length = M := by rw [List.length_map]; exact l1
      refine ⟨_, rfl, a1, _, _, _, rfl, rfl, SqT.of a4, rfl, a3, _, rfl, .inr (SqT.of a7), _, rfl, by rw [la]; omega, by rw [la]; omega, ?_⟩
      rw [Int.toNat_natCast, la]
      intro D1 hD1
      refine lc1_acc (walk_range (lo := 0) (n := M)) (fun i ys _ => (ys = [] ↔ ∀ k < i, d2.ct.getD k 0 ≤ d1.ct.getD k 0) ∧ ys.length ≤ i ∧ i ≤ 20) (fun _ _ _ _ _ h => h) ⟨⟨fun _ k hk => absurd hk (Nat.not_lt_zero k), fun _ => rfl⟩, Nat.le_refl _, by decide⟩ hD1
        (fun i ys _ ⟨_, h, h2⟩ => Nat.lt_of_le_of_lt (show _ ≤ 20 by omega) (by decide)) (fun _ _ => trivial) ?_ ?_
      · rintro i y Ha Hb zs' hi ea hya ⟨rfl, rfl⟩ ⟨hp, hp2, _⟩ QY QN kY kN
        have i1 : i < d1.ct.length := by omega
        have i2 : i < d2.ct.length := by omega
        have g1 : d1.ct.getD i 0 = d1.ct[i] := by rw [List.getD_eq_getElem?_getD, List.getElem?_eq_getElem i1]; rfl
        have g2 : d2.ct.getD i 0 = d2.ct[i] := by rw [List.getD_eq_getElem?_getD, List.getElem?_eq_getElem i2]; rfl
        refine ⟨rfl, _, rfl, a1, _, _, _, rfl, rfl, SqT.of (ea _ _ a4), rfl, _, rfl, a3, _, _, _, rfl, rfl, SqT.of (ea _ _ a7), by rw [Int.zero_add]; exact atI_nat (cV_get i1), _, rfl, b1, _, _, _, rfl, rfl, SqT.of (ea _ _ b4), rfl, _, rfl, b3, _, _, _, rfl, rfl, SqT.of (ea _ _ b7), by rw [Int.zero_add]; exact atI_nat (cV_get i2), _, _, rfl, rfl, _, rfl, ?_⟩
        refine ite2 (fun gl => ?_) (fun gl => ?_)
        · have gl' := of_decide_eq_true gl
          refine ⟨_, rfl, kY _ _ (Ext.refl _) ⟨⟨fun z => ?_, fun z => ?_⟩, by rw [List.length_append]; simp; omega, by omega⟩⟩
          · simp at z
          · have := z i (by omega)
            rw [g1, g2] at this
            omega
        · have gl' := of_decide_eq_false (Bool.eq_false_iff.mpr gl)
          refine kN _ (Ext.refl _) ⟨⟨fun z k hk => ?_, fun z => hp.mpr fun k hk => z k (by omega)⟩, by omega, by omega⟩
          by_cases ck : k < i
          · exact hp.mp z k ck
          · obtain rfl : k = i := by omega
            rw [g1, g2]
            omega
      · rintro H9 ys e9 h9D ⟨hp, _, _⟩
        have e59 := e57.trans (e8.trans e9)
        obtain ⟨dx, lx0, sx, kd, st0, sp, xs0, at0, s1, _⟩ := hS5.up e59
        have e89 := e9
        have hSy9 := sysUp hSy5 e59
        refine ⟨_, rfl, p, dx, _, rfl, s1, sf_no _ _ _ _ _ (by decide +kernel), _, rfl, _, rfl, p, _, _, d1, d2, rfl, hSy9, hu1'.up e9, hu2'.up e9, by omega, fun H10 e10 => ?_⟩
        have e910 := e9.trans e10
        refine ⟨_, rfl, _, rfl, sl_any (e910 _ _ a4) fun p1 H11 e11 h11 => ?_⟩
        rw [show cutV [V.int (d1.pl : Int), V.ref a2, V.ref a3] none (some 2) = [V.int (d1.pl : Int), V.ref a2] from cut_take _ 2] at h11
        refine ⟨_, rfl, _, rfl, sl_any (e11 _ _ (e910 _ _ b4)) fun p2 H12 e12 h12 => ?_⟩
        rw [show cutV [V.int (d2.pl : Int), V.ref b2, V.ref b3] none (some 2) = [V.int (d2.pl : Int), V.ref b2] from cut_take _ 2] at h12
        have e812 := e910.trans (e11.trans e12)
        have e512 := e59.trans (e10.trans (e11.trans e12))
        refine ⟨headD d1, headD d2, sysUp hSy5 e512, .tup (e12 _ _ h11) (.cons (.int _) (.cons (.tup (e812 _ _ a5) (DqAll.up e812 a6)) .nil)), .tup h12 (.cons (.int _) (.cons (.tup (e812 _ _ b5) (DqAll.up e812 b6)) .nil)), sh_head d1, sh_head d2, _, rfl, ?_⟩
        have fin : ∀ H', Ext H8 H' → ∃ s11 s12 s13, [some (V.ref a), some (.ref m), some (.ref p), some (.ref sa), some (.int (st.pl : Int)), some (.ref b), some (.ref c), some (.ref o), s8, some w, some (.int (j : Int)), some (V.ref a1), some (V.ref b1), some (V.ref D1), none] = [some (V.ref a), some (.ref m), some (.ref p), some (.ref sa), some (.int (st.pl : Int)), some (.ref b), some (.ref c), some (.ref o), s8, some w, some (.int (j : Int)), s11, s12, s13, none] ∧ Ext H7 H' := fun H' e => ⟨_, _, _, rfl, e8.trans e⟩
        have al : ∀ (r : Bool) (H' : Hp), aboveB d1 d2 = r → Ext H5 H' → Dq H' (.bl (aboveB d1 d2)) (.bool r) := fun r H' h _ => by rw [h]; exact .bl r
        refine ite2 (fun gv => ?_) (fun gv => ?_)
        · refine ⟨_, rfl, by show 0 ≤ sizeLine; decide, fun p3 hp3 => ?_⟩
          have e13 := Ext.new (o := .lst []) hp3
          have h13D := e13 _ _ ((e10.trans (e11.trans e12)) _ _ h9D)
          refine ⟨D1, p3, _, rfl, rfl, SqL.of h13D, SqL.of upd_same, ?_⟩
          have eqb : aboveB d1 d2 = ys.isEmpty := by
            unfold aboveB
            rw [gv, Bool.true_and, l1, l2, Nat.min_self, Bool.eq_iff_iff, List.isEmpty_iff, hp, List.all_eq_true]
            exact ⟨fun z k hk => of_decide_eq_true (z k (List.mem_range.mpr hk)), fun z k hk => decide_eq_true (z k (List.mem_range.mp hk))⟩
          refine ⟨_, _, .bool ys.isEmpty, rfl, sysUp hSy5 (e512.trans e13), al _ _ eqb (e512.trans e13), .bl _, (bl_ok _).1, (bl_ok _).2, fun H14 e14 => ⟨_, rfl, ?_⟩⟩
          refine iteF ?_
          exact fin _ (e812.trans (e13.trans e14))
        · have eqb : aboveB d1 d2 = false := by
            unfold aboveB
            rw [Bool.eq_false_iff.mpr gv, Bool.false_and]
          refine ⟨_, _, .bool false, rfl, sysUp hSy5 e512, al _ _ eqb e512, .bl _, (bl_ok _).1, (bl_ok _).2, fun H14 e14 => ⟨_, rfl, ?_⟩⟩
          refine iteF ?_
          exact fin _ (e812.trans e14)
    · rintro σ' H8 ⟨s11, s12, s13, rfl, e8⟩
      exact q _ (e05.trans (e57.trans e8))
end
end K28

set_option Elab.async false
set_option linter.all false
set_option maxRecDepth 100000
set_option maxHeartbeats 4000000
namespace K28
open PySem PySem.Spec PyProof.Rows L2 Ol RZ
open TL (tl)
section
variable {P : Program} {w : World} {K : PySem.W.Frag} {mg : Str → Option Value} {base : Heap} {C CP S : Addr}
def spLaw (K : PySem.W.Frag) : Sp := fun vs H Q _ => ∃ (a : Addr) (ns : List Int), vs = [.ref a] ∧ Sys H ∧ SqL K H a (ns.map V.int) ∧ ns.length ≤ 63 ∧ ∀ H', Q (.bl true) H'
abbrev s_law : Stmt := (topS 57)
theorem sc_law : FnScope ["_law_script", "_law_bag_here", "_law_turn", "_law_model_here", "_law_system", "_law_again", "_law_standing_here", "_law_thing", "_law_shown", "_law_due", "_law_once"] ["_law_script"] (defScope s_law) := ⟨rfl, rfl, rfl, by decide +kernel, rfl, by decide +kernel, by decide +kernel⟩
theorem ok_law {f : Addr} {fd : FuncData} (F : Fun K "law" "law" s_law f fd) (T : BT mg) (SL : ST K mg S)
    (CB : Ca P w K mg base 1 "_law_bag" ["_law_script"] (spBag K)) (CT : Ca P w K mg base 1 "_law_take" ["_law_bag_here", "_law_many"] spTake)
    (CMo : Ca P w K mg base 4 "_law_model" ["_law_bag_here", "_law_many", "_law_greatest", "_law_kinds", "_law_places"] spModel) (CMa : Ca P w K mg base 9 "_law_made" ["_law_model_here"] (spMade S C CP))
    (CSt : Ca P w K mg base 4 "_law_standing" ["_law_bag_here", "_law_model_here"] spStd) (CNe : Ca P w K mg base 3 "_law_near" ["_law_bag_here", "_law_model_here", "_law_standing_here"] spNear)
    (CIs : Ca P w K mg base 3 "_law_is_standing" ["_law_model_here", "_law_thing"] spLIs) (CA : Cg P w K mg base 1 "_law_alike" ["_law_found", "_law_due"] spAlike)
    (CAb : Cg P w K mg base 4 "_law_above_right" nAR (spAbR S C CP)) (MIs : Cm P w K mg base S 5 "is_standing" ["self", "thing"] (spIsStd S C CP)) :
    FnG P w K mg base 10 f fd ["_law_script"] (spLaw K) := by
  refine okG F sc_law (fun vs H Q E h => ?_) (fun cdv A outer s H vs Q E hG hr h => ?_)
  · obtain ⟨a, ns, rfl, _⟩ := h
    rfl
  · obtain ⟨a, zs, rfl, hS, hs, hl, q⟩ := h
    refine ⟨_, (pss_cons (ps_set (i := 1) sc_law.nd rfl (.inl rfl) (pe_ca CB (hr.mono (by decide)) (by rfl) (pa_cons (pv 0) pa_nil)))
    (pss_cons (ps_for PassesOwn.never rfl (pi_range1 (by rfl) T.n_range (pa_cons pe_int pa_nil)) (pg_name (i := 2) sc_law.nd rfl (.inl rfl))
      (pss_cons (ps_set (i := 3) sc_law.nd rfl (.inl rfl) (pe_ca CMo (hr.mono (by decide)) (by rfl) (pa_cons (pv 1) (pa_cons (pe_op op_add pe_int (pe_ca CT (hr.mono (by decide)) (by rfl) (pa_cons (pv 1) (pa_cons pe_int pa_nil)))) (pa_cons pe_int (pa_cons (pe_ca CT (hr.mono (by decide)) (by rfl) (pa_cons (pv 1) (pa_cons pe_int pa_nil))) (pa_cons pe_int pa_nil)))))))
      (pss_cons (ps_set (i := 4) sc_law.nd rfl (.inl rfl) (pe_ca CMa (hr.mono (by decide)) (by rfl) (pa_cons (pv 3) pa_nil)))
      (pss_one (ps_for PassesOwn.never rfl (pi_range1 (by rfl) T.n_range (pa_cons pe_int pa_nil)) (pg_name (i := 5) sc_law.nd rfl (.inl rfl))
        (pss_cons (ps_set (i := 6) sc_law.nd rfl (.inl rfl) (pe_ca CSt (hr.mono (by decide)) (by rfl) (pa_cons (pv 1) (pa_cons (pv 3) pa_nil))))
        (pss_cons (ps_set (i := 7) sc_law.nd rfl (.inl rfl) (pe_ca CNe (hr.mono (by decide)) (by rfl) (pa_cons (pv 1) (pa_cons (pv 3) (pa_cons (pv 6) pa_nil)))))
        (pss_cons (ps_par (i := 8) (j := 9) rfl sc_law.nd rfl rfl (by decide) rfl rfl (pa_cons (pe_callB (call_reprD hG hr) (by rfl) T.n_repr (by decide +kernel) (pa_cons (pv 7) pa_nil)) (pa_cons (pe_ca CIs (hr.mono (by decide)) (by rfl) (pa_cons (pv 3) (pa_cons (pv 7) pa_nil))) pa_nil)) (by rfl))
        (pss_cons (ps_for PassesOwn.never rfl (pi_range1 (by rfl) T.n_range (pa_cons pe_int pa_nil)) (pg_name (i := 10) sc_law.nd rfl (.inl rfl))
          (pss_one (ps_if (PW.pt (pw_or (pt_not (pt_val (pe_cg CA hG (hr.mono (by decide)) (by rfl) (pa_cons (pe_cm MIs SL.cl (hr.mono (by decide)) (pv 4) (pa_cons (pv 7) pa_nil)) (pa_cons (pv 9) pa_nil))))) (pw_or1 (pt_cmpR op_ne (pe_callB (call_reprD hG hr) (by rfl) T.n_repr (by decide +kernel) (pa_cons (pv 7) pa_nil)) (pv 8) (nomark _)))))
            (pss_one (ps_ret pe_bl))
            pss_nil)))
        (pss_one (ps_if (pt_not (pt_val (pe_cg CAb hG (hr.mono (by decide)) (by rfl) (pa_cons (pv 1) (pa_cons (pv 3) (pa_cons (pv 4) (pa_cons (pv 6) pa_nil)))))))
          (pss_one (ps_ret pe_bl))
          pss_nil)))))))))))
    (pss_one (ps_ret pe_bl)))), ?_⟩
    refine ⟨_, rfl, a, zs, rfl, hs, by omega, fun p H1 e1 hb => ?_⟩
    have S1 := sysUp hS e1
    refine ⟨_, rfl, by decide, by decide, for_range (n := 4) (fun i σ H' => ∃ s2 s3 s4 s5 s6 s7 s8 s9 s10, σ = [some (.ref a), some (.ref p), s2, s3, s4, s5, s6, s7, s8, s9, s10] ∧ Ext H1 H')
      ⟨none, none, none, none, none, none, none, none, none, rfl, Ext.refl _⟩ ?_ ?_⟩
    · rintro i σ H2 hi ⟨s2, s3, s4, s5, s6, s7, s8, s9, s10, rfl, e2⟩
      have hb2 := hb.up e2
      refine ⟨_, rfl, _, rfl, p, 2, rfl, hb2, by decide, by decide, fun r r0 r1 => ⟨_, _, rfl, rfl, _, rfl, p, 3, rfl, hb2, by decide, by decide, fun r' r0' r1' => ?_⟩⟩
      refine ⟨p, 1 + r, 3, r', 4, rfl, sysUp S1 e2, hb2, by omega, by omega, by decide, by decide, by omega, by omega, by decide, by decide, fun m H3 ps sv kx hm3 e3 hM hGm => ?_⟩
      refine ⟨_, rfl, m, 3, ps, sv, kx, rfl, hM, hGm, fun x H4 ns ks nx e4 hperm hso hkp hSy => ?_⟩
      obtain ⟨dx, lx0, sx, kd, st0, sp, xs0, at0, s1, _, _, _, _, _, _, _, gS⟩ := id hSy
      have hM4 := hM.up e4
      have e14 := e2.trans (e3.trans e4)
      have hb4 := hb.up e14
      have z60 := seats_len (ks := ks) fun k hk => Nat.le_trans (hGm.k5 k (hkp.mem_iff.mp hk)) (by decide)
      have lks : ks.length ≤ 2 := by rw [hkp.length_eq]; exact hGm.k2
      have s20 : (seatsOf ks).length ≤ 20 := by omega
      have S4 := sysUp S1 e14
      refine ⟨_, rfl, by decide, by decide, for_range (n := 8) (fun i' σ H' => ∃ s5 s6 s7 s8 s9 s10, σ = [some (.ref a), some (.ref p), some (.int (0 + (i : Int))), some (.ref m), some (.ref x), s5, s6, s7, s8, s9, s10] ∧ Ext H4 H')
        ⟨_, _, _, _, _, _, rfl, Ext.refl _⟩ ?_ ?_⟩
      · rintro i' σ H5 hi' ⟨s5, s6, s7, s8, s9, s10, rfl, e5⟩
        refine ⟨_, rfl, _, rfl, p, m, 3, ps, sv, kx, ks, ns, rfl, hb4.up e5, hM4.up e5, hGm, by decide, hkp, gS.so, hperm, hso, fun v H6 sd e6 hv hgs => ?_⟩
        have e46 := e5.trans e6
        refine ⟨_, rfl, _, rfl, _, rfl, p, m, 3, ps, sv, kx, ns, (seatsOf ks).length, v, sd, rfl, sysUp S4 e46, hb4.up e46, hM4.up e46, hGm, by decide, hperm, hso, hv, hgs, s20, fun u H7 e7 hu => ?_⟩
        obtain ⟨d, du, gd⟩ := hu
        have fd := gd.fits (by decide)
        have e47 := e46.trans e7
        refine ⟨_, rfl, u, d, rfl, sysUp S4 e47, du, fd.sh, fd.dep, fd.len, ?_⟩
        refine ⟨_, rfl, _, rfl, m, 3, ps, sv, kx, ks, ns, u, d, rfl, hM4.up e47, hGm, hkp, gS.so, hperm, hso, du, fun H8 e8 => ⟨_, _, rfl, ?_⟩⟩
        have e48 := e47.trans e8
        refine ⟨_, rfl, by decide, by decide, for_range (n := 2) (fun i'' σ H' => ∃ s10, σ = [some (.ref a), some (.ref p), some (.int (0 + (i : Int))), some (.ref m), some (.ref x), some (.int (0 + (i' : Int))), some v, some u, some (.str d.shown), some (.bl (isStdD (ns.map (bdOf ps)) sv.length (seatsOf ks).length d)), s10] ∧ Ext H8 H')
          ⟨_, rfl, Ext.refl _⟩ ?_ ?_⟩
        · rintro i'' σ H9 hi'' ⟨s10, rfl, e9⟩
          have e49 := e48.trans e9
          have e79 := e8.trans e9
          refine ⟨_, rfl, x, dx, _, rfl, e49 _ _ s1, sf_no _ _ _ _ _ (by decide +kernel), _, rfl, x, ns, ns.map (bdOf ps), sv, ks, u, d, rfl, hSy.up e49, s20, du.up e79, fun H10 e10 => ?_⟩
          refine ⟨_, rfl, _, _, .bool (isStdD (ns.map (bdOf ps)) sv.length (seatsOf ks).length d), rfl, sysUp S4 (e49.trans e10), .bl _, .bl _, (bl_ok _).1, (bl_ok _).2, fun H11 e11 => ⟨_, rfl, ?_⟩⟩
          refine iteF ?_
          have e711 := e79.trans (e10.trans e11)
          refine ⟨_, rfl, u, d, rfl, sysUp S4 (e47.trans e711), du.up e711, fd.sh, fd.dep, fd.len, _, rfl, rfl, _, rfl, ?_⟩
          have z : (!decide (V.str d.shown = V.str d.shown)) = false := by simp
          rw [z]
          refine iteF ?_
          exact ⟨_, rfl, e9.trans (e10.trans e11)⟩
        · rintro σ H9 ⟨s10, rfl, e9⟩
          have e49 := e48.trans e9
          refine ⟨_, rfl, _, rfl, _, rfl, _, rfl, p, m, x, 3, ps, sv, kx, ks, ns, _, v, sd, rfl, sysUp S4 e49, hb4.up e49, hM4.up e49, hGm, by decide, hperm, hso, hSy.up e49, hv.up (e7.trans (e8.trans e9)), hgs.ct, s20, fun H10 e10 => ⟨_, rfl, ?_⟩⟩
          refine iteF ?_
          exact ⟨_, _, _, _, _, _, rfl, e49.trans e10⟩
      · rintro σ H5 ⟨s5, s6, s7, s8, s9, s10, rfl, e5⟩
        exact ⟨_, _, _, _, _, _, _, _, _, rfl, e14.trans e5⟩
    · rintro σ H2 ⟨s2, s3, s4, s5, s6, s7, s8, s9, s10, rfl, e2⟩
      exact q _
end
end K28

set_option Elab.async false
set_option linter.all false
set_option maxRecDepth 100000
set_option maxHeartbeats 4000000
namespace K28
open PySem PySem.Spec PyProof.Rows L2 Ol
theorem good_arm {vs : List V} {H : Hp} {Q : VK} {E : XK} (h : spGood GA vs H Q E) : spPred OkT isArmD vs H Q E := by
  obtain ⟨v, d, e, hd, ⟨a, ga, rfl⟩, q⟩ := h
  obtain ⟨h1, h2⟩ := isArm_of ga
  exact ⟨v, _, e, hd, h2, fun H2 e2 => by rw [h1]; exact q H2 e2⟩
theorem all_mk {l : PySem.W.OpenLaw} {w : World} {K : PySem.W.Frag} {h : Heap} {mg : Str → Option Value} {fa C CP S : Addr} (X : K.In h) (G : h.Ns mainGlobals mg) (hfa : mg "law" = some (.ref fa))
    {f0 : Addr} {od0 an0 : Option Addr} {sl0 : Array (Option Value)} {oc0 kV0 dc0 pm0 cd0 ct0 : Value}
    (a0 : PySem.W.nsIn K mainGlobals "is_integer" = some (some (.ref f0)))
    (l0 : K.lookup f0 = some ⟨oc0, od0, .func (PySem.W.fnOf "is_integer" "is_integer" (defArgs s_is_integer) (defBody s_is_integer) (defScope s_is_integer) .none kV0 dc0 pm0 an0 cd0 ct0), sl0⟩)
    (c0 : PySem.W.codeIn K cd0 "is_integer" = true) (k0 : PySem.W.keepIn K (.ref f0) = true)
    {f1 : Addr} {od1 an1 : Option Addr} {sl1 : Array (Option Value)} {oc1 kV1 dc1 pm1 cd1 ct1 : Value}
    (a1 : PySem.W.nsIn K mainGlobals "is_number" = some (some (.ref f1)))
    (l1 : K.lookup f1 = some ⟨oc1, od1, .func (PySem.W.fnOf "is_number" "is_number" (defArgs s_is_number) (defBody s_is_number) (defScope s_is_number) .none kV1 dc1 pm1 an1 cd1 ct1), sl1⟩)
    (c1 : PySem.W.codeIn K cd1 "is_number" = true) (k1 : PySem.W.keepIn K (.ref f1) = true)
    {f2 : Addr} {od2 an2 : Option Addr} {sl2 : Array (Option Value)} {oc2 kV2 dc2 pm2 cd2 ct2 : Value}
    (a2 : PySem.W.nsIn K mainGlobals "is_name" = some (some (.ref f2)))
    (l2 : K.lookup f2 = some ⟨oc2, od2, .func (PySem.W.fnOf "is_name" "is_name" (defArgs s_is_name) (defBody s_is_name) (defScope s_is_name) .none kV2 dc2 pm2 an2 cd2 ct2), sl2⟩)
    (c2 : PySem.W.codeIn K cd2 "is_name" = true) (k2 : PySem.W.keepIn K (.ref f2) = true)
    {f3 : Addr} {od3 an3 : Option Addr} {sl3 : Array (Option Value)} {oc3 kV3 dc3 pm3 cd3 ct3 : Value}
    (a3 : PySem.W.nsIn K mainGlobals "is_word" = some (some (.ref f3)))
    (l3 : K.lookup f3 = some ⟨oc3, od3, .func (PySem.W.fnOf "is_word" "is_word" (defArgs s_is_word) (defBody s_is_word) (defScope s_is_word) .none kV3 dc3 pm3 an3 cd3 ct3), sl3⟩)
    (c3 : PySem.W.codeIn K cd3 "is_word" = true) (k3 : PySem.W.keepIn K (.ref f3) = true)
    {f4 : Addr} {od4 an4 : Option Addr} {sl4 : Array (Option Value)} {oc4 kV4 dc4 pm4 cd4 ct4 : Value}
    (a4 : PySem.W.nsIn K mainGlobals "is_mode" = some (some (.ref f4)))
    (l4 : K.lookup f4 = some ⟨oc4, od4, .func (PySem.W.fnOf "is_mode" "is_mode" (defArgs s_mode) (defBody s_mode) (defScope s_mode) .none kV4 dc4 pm4 an4 cd4 ct4), sl4⟩)
    (c4 : PySem.W.codeIn K cd4 "is_mode" = true) (k4 : PySem.W.keepIn K (.ref f4) = true)
    {f5 : Addr} {od5 an5 : Option Addr} {sl5 : Array (Option Value)} {oc5 kV5 dc5 pm5 cd5 ct5 : Value}
    (a5 : PySem.W.nsIn K mainGlobals "is_arm" = some (some (.ref f5)))
    (l5 : K.lookup f5 = some ⟨oc5, od5, .func (PySem.W.fnOf "is_arm" "is_arm" (defArgs s_is_arm) (defBody s_is_arm) (defScope s_is_arm) .none kV5 dc5 pm5 an5 cd5 ct5), sl5⟩)
    (c5 : PySem.W.codeIn K cd5 "is_arm" = true) (k5 : PySem.W.keepIn K (.ref f5) = true)
    {f6 : Addr} {od6 an6 : Option Addr} {sl6 : Array (Option Value)} {oc6 kV6 dc6 pm6 cd6 ct6 : Value}
    (a6 : PySem.W.nsIn K mainGlobals "is_row_of" = some (some (.ref f6)))
    (l6 : K.lookup f6 = some ⟨oc6, od6, .func (PySem.W.fnOf "is_row_of" "is_row_of" (defArgs s_row) (defBody s_row) (defScope s_row) .none kV6 dc6 pm6 an6 cd6 ct6), sl6⟩)
    (c6 : PySem.W.codeIn K cd6 "is_row_of" = true) (k6 : PySem.W.keepIn K (.ref f6) = true)
    {f7 : Addr} {od7 an7 : Option Addr} {sl7 : Array (Option Value)} {oc7 kV7 dc7 pm7 cd7 ct7 : Value}
    (a7 : PySem.W.nsIn K mainGlobals "is_bound" = some (some (.ref f7)))
    (l7 : K.lookup f7 = some ⟨oc7, od7, .func (PySem.W.fnOf "is_bound" "is_bound" (defArgs s_is_bound) (defBody s_is_bound) (defScope s_is_bound) .none kV7 dc7 pm7 an7 cd7 ct7), sl7⟩)
    (c7 : PySem.W.codeIn K cd7 "is_bound" = true) (k7 : PySem.W.keepIn K (.ref f7) = true)
    {f8 : Addr} {od8 an8 : Option Addr} {sl8 : Array (Option Value)} {oc8 kV8 dc8 pm8 cd8 ct8 : Value}
    (a8 : PySem.W.nsIn K mainGlobals "is_bounds" = some (some (.ref f8)))
    (l8 : K.lookup f8 = some ⟨oc8, od8, .func (PySem.W.fnOf "is_bounds" "is_bounds" (defArgs s_is_bounds) (defBody s_is_bounds) (defScope s_is_bounds) .none kV8 dc8 pm8 an8 cd8 ct8), sl8⟩)
    (c8 : PySem.W.codeIn K cd8 "is_bounds" = true) (k8 : PySem.W.keepIn K (.ref f8) = true)
    {f9 : Addr} {od9 an9 : Option Addr} {sl9 : Array (Option Value)} {oc9 kV9 dc9 pm9 cd9 ct9 : Value}
    (a9 : PySem.W.nsIn K mainGlobals "is_state" = some (some (.ref f9)))
    (l9 : K.lookup f9 = some ⟨oc9, od9, .func (PySem.W.fnOf "is_state" "is_state" (defArgs s_isSt) (defBody s_isSt) (defScope s_isSt) .none kV9 dc9 pm9 an9 cd9 ct9), sl9⟩)
    (c9 : PySem.W.codeIn K cd9 "is_state" = true) (k9 : PySem.W.keepIn K (.ref f9) = true)
    {f10 : Addr} {od10 an10 : Option Addr} {sl10 : Array (Option Value)} {oc10 kV10 dc10 pm10 cd10 ct10 : Value}
    (a10 : PySem.W.nsIn K mainGlobals "is_place" = some (some (.ref f10)))
    (l10 : K.lookup f10 = some ⟨oc10, od10, .func (PySem.W.fnOf "is_place" "is_place" (defArgs s_place) (defBody s_place) (defScope s_place) .none kV10 dc10 pm10 an10 cd10 ct10), sl10⟩)
    (c10 : PySem.W.codeIn K cd10 "is_place" = true) (k10 : PySem.W.keepIn K (.ref f10) = true)
    {f11 : Addr} {od11 an11 : Option Addr} {sl11 : Array (Option Value)} {oc11 kV11 dc11 pm11 cd11 ct11 : Value}
    (a11 : PySem.W.nsIn K mainGlobals "is_else" = some (some (.ref f11)))
    (l11 : K.lookup f11 = some ⟨oc11, od11, .func (PySem.W.fnOf "is_else" "is_else" (defArgs s_else) (defBody s_else) (defScope s_else) .none kV11 dc11 pm11 an11 cd11 ct11), sl11⟩)
    (c11 : PySem.W.codeIn K cd11 "is_else" = true) (k11 : PySem.W.keepIn K (.ref f11) = true)
    {f12 : Addr} {od12 an12 : Option Addr} {sl12 : Array (Option Value)} {oc12 kV12 dc12 pm12 cd12 ct12 : Value}
    (a12 : PySem.W.nsIn K mainGlobals "check_lanes" = some (some (.ref f12)))
    (l12 : K.lookup f12 = some ⟨oc12, od12, .func (PySem.W.fnOf "check_lanes" "check_lanes" (defArgs s_ckl) (defBody s_ckl) (defScope s_ckl) .none kV12 dc12 pm12 an12 cd12 ct12), sl12⟩)
    (c12 : PySem.W.codeIn K cd12 "check_lanes" = true) (k12 : PySem.W.keepIn K (.ref f12) = true)
    {f13 : Addr} {od13 an13 : Option Addr} {sl13 : Array (Option Value)} {oc13 kV13 dc13 pm13 cd13 ct13 : Value}
    (a13 : PySem.W.nsIn K mainGlobals "is_kinds" = some (some (.ref f13)))
    (l13 : K.lookup f13 = some ⟨oc13, od13, .func (PySem.W.fnOf "is_kinds" "is_kinds" (defArgs s_kinds) (defBody s_kinds) (defScope s_kinds) .none kV13 dc13 pm13 an13 cd13 ct13), sl13⟩)
    (c13 : PySem.W.codeIn K cd13 "is_kinds" = true) (k13 : PySem.W.keepIn K (.ref f13) = true)
    {f14 : Addr} {od14 an14 : Option Addr} {sl14 : Array (Option Value)} {oc14 kV14 dc14 pm14 cd14 ct14 : Value}
    (a14 : PySem.W.nsIn K mainGlobals "is_counts" = some (some (.ref f14)))
    (l14 : K.lookup f14 = some ⟨oc14, od14, .func (PySem.W.fnOf "is_counts" "is_counts" (defArgs s_counts) (defBody s_counts) (defScope s_counts) .none kV14 dc14 pm14 an14 cd14 ct14), sl14⟩)
    (c14 : PySem.W.codeIn K cd14 "is_counts" = true) (k14 : PySem.W.keepIn K (.ref f14) = true)
    {f15 : Addr} {od15 an15 : Option Addr} {sl15 : Array (Option Value)} {oc15 kV15 dc15 pm15 cd15 ct15 : Value}
    (a15 : PySem.W.nsIn K mainGlobals "_law_bag" = some (some (.ref f15)))
    (l15 : K.lookup f15 = some ⟨oc15, od15, .func (PySem.W.fnOf "_law_bag" "_law_bag" (defArgs s__law_bag) (defBody s__law_bag) (defScope s__law_bag) .none kV15 dc15 pm15 an15 cd15 ct15), sl15⟩)
    (c15 : PySem.W.codeIn K cd15 "_law_bag" = true) (k15 : PySem.W.keepIn K (.ref f15) = true)
    {f16 : Addr} {od16 an16 : Option Addr} {sl16 : Array (Option Value)} {oc16 kV16 dc16 pm16 cd16 ct16 : Value}
    (a16 : PySem.W.nsIn K mainGlobals "_law_take" = some (some (.ref f16)))
    (l16 : K.lookup f16 = some ⟨oc16, od16, .func (PySem.W.fnOf "_law_take" "_law_take" (defArgs s__law_take) (defBody s__law_take) (defScope s__law_take) .none kV16 dc16 pm16 an16 cd16 ct16), sl16⟩)
    (c16 : PySem.W.codeIn K cd16 "_law_take" = true) (k16 : PySem.W.keepIn K (.ref f16) = true)
    {f17 : Addr} {od17 an17 : Option Addr} {sl17 : Array (Option Value)} {oc17 kV17 dc17 pm17 cd17 ct17 : Value}
    (a17 : PySem.W.nsIn K mainGlobals "_law_alike" = some (some (.ref f17)))
    (l17 : K.lookup f17 = some ⟨oc17, od17, .func (PySem.W.fnOf "_law_alike" "_law_alike" (defArgs s__law_alike) (defBody s__law_alike) (defScope s__law_alike) .none kV17 dc17 pm17 an17 cd17 ct17), sl17⟩)
    (c17 : PySem.W.codeIn K cd17 "_law_alike" = true) (k17 : PySem.W.keepIn K (.ref f17) = true)
    {f18 : Addr} {od18 an18 : Option Addr} {sl18 : Array (Option Value)} {oc18 kV18 dc18 pm18 cd18 ct18 : Value}
    (a18 : PySem.W.nsIn K mainGlobals "_law_names" = some (some (.ref f18)))
    (l18 : K.lookup f18 = some ⟨oc18, od18, .func (PySem.W.fnOf "_law_names" "_law_names" (defArgs s__law_names) (defBody s__law_names) (defScope s__law_names) .none kV18 dc18 pm18 an18 cd18 ct18), sl18⟩)
    (c18 : PySem.W.codeIn K cd18 "_law_names" = true) (k18 : PySem.W.keepIn K (.ref f18) = true)
    {f19 : Addr} {od19 an19 : Option Addr} {sl19 : Array (Option Value)} {oc19 kV19 dc19 pm19 cd19 ct19 : Value}
    (a19 : PySem.W.nsIn K mainGlobals "_law_is_integer" = some (some (.ref f19)))
    (l19 : K.lookup f19 = some ⟨oc19, od19, .func (PySem.W.fnOf "_law_is_integer" "_law_is_integer" (defArgs s__law_is_integer) (defBody s__law_is_integer) (defScope s__law_is_integer) .none kV19 dc19 pm19 an19 cd19 ct19), sl19⟩)
    (c19 : PySem.W.codeIn K cd19 "_law_is_integer" = true) (k19 : PySem.W.keepIn K (.ref f19) = true)
    {f20 : Addr} {od20 an20 : Option Addr} {sl20 : Array (Option Value)} {oc20 kV20 dc20 pm20 cd20 ct20 : Value}
    (a20 : PySem.W.nsIn K mainGlobals "_law_bounds" = some (some (.ref f20)))
    (l20 : K.lookup f20 = some ⟨oc20, od20, .func (PySem.W.fnOf "_law_bounds" "_law_bounds" (defArgs s_bounds) (defBody s_bounds) (defScope s_bounds) .none kV20 dc20 pm20 an20 cd20 ct20), sl20⟩)
    (c20 : PySem.W.codeIn K cd20 "_law_bounds" = true) (k20 : PySem.W.keepIn K (.ref f20) = true)
    {f21 : Addr} {od21 an21 : Option Addr} {sl21 : Array (Option Value)} {oc21 kV21 dc21 pm21 cd21 ct21 : Value}
    (a21 : PySem.W.nsIn K mainGlobals "_law_arm" = some (some (.ref f21)))
    (l21 : K.lookup f21 = some ⟨oc21, od21, .func (PySem.W.fnOf "_law_arm" "_law_arm" (defArgs s__law_arm) (defBody s__law_arm) (defScope s__law_arm) .none kV21 dc21 pm21 an21 cd21 ct21), sl21⟩)
    (c21 : PySem.W.codeIn K cd21 "_law_arm" = true) (k21 : PySem.W.keepIn K (.ref f21) = true)
    {f22 : Addr} {od22 an22 : Option Addr} {sl22 : Array (Option Value)} {oc22 kV22 dc22 pm22 cd22 ct22 : Value}
    (a22 : PySem.W.nsIn K mainGlobals "_law_program" = some (some (.ref f22)))
    (l22 : K.lookup f22 = some ⟨oc22, od22, .func (PySem.W.fnOf "_law_program" "_law_program" (defArgs s__law_program) (defBody s__law_program) (defScope s__law_program) .none kV22 dc22 pm22 an22 cd22 ct22), sl22⟩)
    (c22 : PySem.W.codeIn K cd22 "_law_program" = true) (k22 : PySem.W.keepIn K (.ref f22) = true)
    {f23 : Addr} {od23 an23 : Option Addr} {sl23 : Array (Option Value)} {oc23 kV23 dc23 pm23 cd23 ct23 : Value}
    (a23 : PySem.W.nsIn K mainGlobals "_law_model" = some (some (.ref f23)))
    (l23 : K.lookup f23 = some ⟨oc23, od23, .func (PySem.W.fnOf "_law_model" "_law_model" (defArgs s__law_model) (defBody s__law_model) (defScope s__law_model) .none kV23 dc23 pm23 an23 cd23 ct23), sl23⟩)
    (c23 : PySem.W.codeIn K cd23 "_law_model" = true) (k23 : PySem.W.keepIn K (.ref f23) = true)
    {f24 : Addr} {od24 an24 : Option Addr} {sl24 : Array (Option Value)} {oc24 kV24 dc24 pm24 cd24 ct24 : Value}
    (a24 : PySem.W.nsIn K mainGlobals "_law_made" = some (some (.ref f24)))
    (l24 : K.lookup f24 = some ⟨oc24, od24, .func (PySem.W.fnOf "_law_made" "_law_made" (defArgs s__law_made) (defBody s__law_made) (defScope s__law_made) .none kV24 dc24 pm24 an24 cd24 ct24), sl24⟩)
    (c24 : PySem.W.codeIn K cd24 "_law_made" = true) (k24 : PySem.W.keepIn K (.ref f24) = true)
    {f25 : Addr} {od25 an25 : Option Addr} {sl25 : Array (Option Value)} {oc25 kV25 dc25 pm25 cd25 ct25 : Value}
    (a25 : PySem.W.nsIn K mainGlobals "_law_state" = some (some (.ref f25)))
    (l25 : K.lookup f25 = some ⟨oc25, od25, .func (PySem.W.fnOf "_law_state" "_law_state" (defArgs s_lstate) (defBody s_lstate) (defScope s_lstate) .none kV25 dc25 pm25 an25 cd25 ct25), sl25⟩)
    (c25 : PySem.W.codeIn K cd25 "_law_state" = true) (k25 : PySem.W.keepIn K (.ref f25) = true)
    {f26 : Addr} {od26 an26 : Option Addr} {sl26 : Array (Option Value)} {oc26 kV26 dc26 pm26 cd26 ct26 : Value}
    (a26 : PySem.W.nsIn K mainGlobals "_law_content" = some (some (.ref f26)))
    (l26 : K.lookup f26 = some ⟨oc26, od26, .func (PySem.W.fnOf "_law_content" "_law_content" (defArgs s_lcontent) (defBody s_lcontent) (defScope s_lcontent) .none kV26 dc26 pm26 an26 cd26 ct26), sl26⟩)
    (c26 : PySem.W.codeIn K cd26 "_law_content" = true) (k26 : PySem.W.keepIn K (.ref f26) = true)
    {f27 : Addr} {od27 an27 : Option Addr} {sl27 : Array (Option Value)} {oc27 kV27 dc27 pm27 cd27 ct27 : Value}
    (a27 : PySem.W.nsIn K mainGlobals "_law_odd" = some (some (.ref f27)))
    (l27 : K.lookup f27 = some ⟨oc27, od27, .func (PySem.W.fnOf "_law_odd" "_law_odd" (defArgs s_odd) (defBody s_odd) (defScope s_odd) .none kV27 dc27 pm27 an27 cd27 ct27), sl27⟩)
    (c27 : PySem.W.codeIn K cd27 "_law_odd" = true) (k27 : PySem.W.keepIn K (.ref f27) = true)
    {f28 : Addr} {od28 an28 : Option Addr} {sl28 : Array (Option Value)} {oc28 kV28 dc28 pm28 cd28 ct28 : Value}
    (a28 : PySem.W.nsIn K mainGlobals "_law_seats" = some (some (.ref f28)))
    (l28 : K.lookup f28 = some ⟨oc28, od28, .func (PySem.W.fnOf "_law_seats" "_law_seats" (defArgs s__law_seats) (defBody s__law_seats) (defScope s__law_seats) .none kV28 dc28 pm28 an28 cd28 ct28), sl28⟩)
    (c28 : PySem.W.codeIn K cd28 "_law_seats" = true) (k28 : PySem.W.keepIn K (.ref f28) = true)
    {f29 : Addr} {od29 an29 : Option Addr} {sl29 : Array (Option Value)} {oc29 kV29 dc29 pm29 cd29 ct29 : Value}
    (a29 : PySem.W.nsIn K mainGlobals "_law_standing" = some (some (.ref f29)))
    (l29 : K.lookup f29 = some ⟨oc29, od29, .func (PySem.W.fnOf "_law_standing" "_law_standing" (defArgs s__law_standing) (defBody s__law_standing) (defScope s__law_standing) .none kV29 dc29 pm29 an29 cd29 ct29), sl29⟩)
    (c29 : PySem.W.codeIn K cd29 "_law_standing" = true) (k29 : PySem.W.keepIn K (.ref f29) = true)
    {f30 : Addr} {od30 an30 : Option Addr} {sl30 : Array (Option Value)} {oc30 kV30 dc30 pm30 cd30 ct30 : Value}
    (a30 : PySem.W.nsIn K mainGlobals "_law_is_number" = some (some (.ref f30)))
    (l30 : K.lookup f30 = some ⟨oc30, od30, .func (PySem.W.fnOf "_law_is_number" "_law_is_number" (defArgs s__law_is_number) (defBody s__law_is_number) (defScope s__law_is_number) .none kV30 dc30 pm30 an30 cd30 ct30), sl30⟩)
    (c30 : PySem.W.codeIn K cd30 "_law_is_number" = true) (k30 : PySem.W.keepIn K (.ref f30) = true)
    {f31 : Addr} {od31 an31 : Option Addr} {sl31 : Array (Option Value)} {oc31 kV31 dc31 pm31 cd31 ct31 : Value}
    (a31 : PySem.W.nsIn K mainGlobals "_law_is_standing" = some (some (.ref f31)))
    (l31 : K.lookup f31 = some ⟨oc31, od31, .func (PySem.W.fnOf "_law_is_standing" "_law_is_standing" (defArgs s__law_is_standing) (defBody s__law_is_standing) (defScope s__law_is_standing) .none kV31 dc31 pm31 an31 cd31 ct31), sl31⟩)
    (c31 : PySem.W.codeIn K cd31 "_law_is_standing" = true) (k31 : PySem.W.keepIn K (.ref f31) = true)
    {f32 : Addr} {od32 an32 : Option Addr} {sl32 : Array (Option Value)} {oc32 kV32 dc32 pm32 cd32 ct32 : Value}
    (a32 : PySem.W.nsIn K mainGlobals "_law_near" = some (some (.ref f32)))
    (l32 : K.lookup f32 = some ⟨oc32, od32, .func (PySem.W.fnOf "_law_near" "_law_near" (defArgs s__law_near) (defBody s__law_near) (defScope s__law_near) .none kV32 dc32 pm32 an32 cd32 ct32), sl32⟩)
    (c32 : PySem.W.codeIn K cd32 "_law_near" = true) (k32 : PySem.W.keepIn K (.ref f32) = true)
    {f33 : Addr} {od33 an33 : Option Addr} {sl33 : Array (Option Value)} {oc33 kV33 dc33 pm33 cd33 ct33 : Value}
    (a33 : PySem.W.nsIn K mainGlobals "_law_above_right" = some (some (.ref f33)))
    (l33 : K.lookup f33 = some ⟨oc33, od33, .func (PySem.W.fnOf "_law_above_right" "_law_above_right" (defArgs s__law_above_right) (defBody s__law_above_right) (defScope s__law_above_right) .none kV33 dc33 pm33 an33 cd33 ct33), sl33⟩)
    (c33 : PySem.W.codeIn K cd33 "_law_above_right" = true) (k33 : PySem.W.keepIn K (.ref f33) = true)
    {f34 : Addr} {od34 an34 : Option Addr} {sl34 : Array (Option Value)} {oc34 kV34 dc34 pm34 cd34 ct34 : Value}
    (a34 : PySem.W.nsIn K mainGlobals "law" = some (some (.ref f34)))
    (l34 : K.lookup f34 = some ⟨oc34, od34, .func (PySem.W.fnOf "law" "law" (defArgs s_law) (defBody s_law) (defScope s_law) .none kV34 dc34 pm34 an34 cd34 ct34), sl34⟩)
    (c34 : PySem.W.codeIn K cd34 "law" = true) (k34 : PySem.W.keepIn K (.ref f34) = true)
    (aGC : PySem.W.nsIn K mainGlobals "Lanes" = some (some (.ref C)))
    (aGCP : PySem.W.nsIn K mainGlobals "Program" = some (some (.ref CP)))
    (aGS : PySem.W.nsIn K mainGlobals "System" = some (some (.ref S)))
    {fm0 : Addr} {odm0 anm0 : Option Addr} {slm0 : Array (Option Value)} {ocm0 kVm0 dcm0 pmm0 cdm0 ctm0 : Value}
    (am0 : PySem.W.findIn K (.ref C) "__init__" = some (some (.ref fm0)))
    (im0 : PySem.W.isFn K (.ref fm0) = true)
    (lm0 : K.lookup fm0 = some ⟨ocm0, odm0, .func (PySem.W.fnOf "__init__" "Lanes.__init__" (defArgs (cL 0)) (defBody (cL 0)) (defScope (cL 0)) .none kVm0 dcm0 pmm0 anm0 cdm0 ctm0), slm0⟩)
    (cm0 : PySem.W.codeIn K cdm0 "Lanes.__init__" = true) (km0 : PySem.W.keepIn K (.ref fm0) = true)
    {fm1 : Addr} {odm1 anm1 : Option Addr} {slm1 : Array (Option Value)} {ocm1 kVm1 dcm1 pmm1 cdm1 ctm1 : Value}
    (am1 : PySem.W.findIn K (.ref C) "__contains__" = some (some (.ref fm1)))
    (im1 : PySem.W.isFn K (.ref fm1) = true)
    (lm1 : K.lookup fm1 = some ⟨ocm1, odm1, .func (PySem.W.fnOf "__contains__" "Lanes.__contains__" (defArgs (cL 4)) (defBody (cL 4)) (defScope (cL 4)) .none kVm1 dcm1 pmm1 anm1 cdm1 ctm1), slm1⟩)
    (cm1 : PySem.W.codeIn K cdm1 "Lanes.__contains__" = true) (km1 : PySem.W.keepIn K (.ref fm1) = true)
    {fm2 : Addr} {odm2 anm2 : Option Addr} {slm2 : Array (Option Value)} {ocm2 kVm2 dcm2 pmm2 cdm2 ctm2 : Value}
    (am2 : PySem.W.findIn K (.ref C) "is_content" = some (some (.ref fm2)))
    (im2 : PySem.W.isFn K (.ref fm2) = true)
    (lm2 : K.lookup fm2 = some ⟨ocm2, odm2, .func (PySem.W.fnOf "is_content" "Lanes.is_content" (defArgs (cL 10)) (defBody (cL 10)) (defScope (cL 10)) .none kVm2 dcm2 pmm2 anm2 cdm2 ctm2), slm2⟩)
    (cm2 : PySem.W.codeIn K cdm2 "Lanes.is_content" = true) (km2 : PySem.W.keepIn K (.ref fm2) = true)
    {fm3 : Addr} {odm3 anm3 : Option Addr} {slm3 : Array (Option Value)} {ocm3 kVm3 dcm3 pmm3 cdm3 ctm3 : Value}
    (am3 : PySem.W.findIn K (.ref CP) "__init__" = some (some (.ref fm3)))
    (im3 : PySem.W.isFn K (.ref fm3) = true)
    (lm3 : K.lookup fm3 = some ⟨ocm3, odm3, .func (PySem.W.fnOf "__init__" "Program.__init__" (defArgs (cP 0)) (defBody (cP 0)) (defScope (cP 0)) .none kVm3 dcm3 pmm3 anm3 cdm3 ctm3), slm3⟩)
    (cm3 : PySem.W.codeIn K cdm3 "Program.__init__" = true) (km3 : PySem.W.keepIn K (.ref fm3) = true)
    {fm4 : Addr} {odm4 anm4 : Option Addr} {slm4 : Array (Option Value)} {ocm4 kVm4 dcm4 pmm4 cdm4 ctm4 : Value}
    (am4 : PySem.W.findIn K (.ref CP) "_check" = some (some (.ref fm4)))
    (im4 : PySem.W.isFn K (.ref fm4) = true)
    (lm4 : K.lookup fm4 = some ⟨ocm4, odm4, .func (PySem.W.fnOf "_check" "Program._check" (defArgs (cP 1)) (defBody (cP 1)) (defScope (cP 1)) .none kVm4 dcm4 pmm4 anm4 cdm4 ctm4), slm4⟩)
    (cm4 : PySem.W.codeIn K cdm4 "Program._check" = true) (km4 : PySem.W.keepIn K (.ref fm4) = true)
    {fm5 : Addr} {odm5 anm5 : Option Addr} {slm5 : Array (Option Value)} {ocm5 kVm5 dcm5 pmm5 cdm5 ctm5 : Value}
    (am5 : PySem.W.findIn K (.ref CP) "used" = some (some (.ref fm5)))
    (im5 : PySem.W.isFn K (.ref fm5) = true)
    (lm5 : K.lookup fm5 = some ⟨ocm5, odm5, .func (PySem.W.fnOf "used" "Program.used" (defArgs (cP 11)) (defBody (cP 11)) (defScope (cP 11)) .none kVm5 dcm5 pmm5 anm5 cdm5 ctm5), slm5⟩)
    (cm5 : PySem.W.codeIn K cdm5 "Program.used" = true) (km5 : PySem.W.keepIn K (.ref fm5) = true)
    {fm6 : Addr} {odm6 anm6 : Option Addr} {slm6 : Array (Option Value)} {ocm6 kVm6 dcm6 pmm6 cdm6 ctm6 : Value}
    (am6 : PySem.W.findIn K (.ref S) "__init__" = some (some (.ref fm6)))
    (im6 : PySem.W.isFn K (.ref fm6) = true)
    (lm6 : K.lookup fm6 = some ⟨ocm6, odm6, .func (PySem.W.fnOf "__init__" "System.__init__" (defArgs (cS 0)) (defBody (cS 0)) (defScope (cS 0)) .none kVm6 dcm6 pmm6 anm6 cdm6 ctm6), slm6⟩)
    (cm6 : PySem.W.codeIn K cdm6 "System.__init__" = true) (km6 : PySem.W.keepIn K (.ref fm6) = true)
    {fm7 : Addr} {odm7 anm7 : Option Addr} {slm7 : Array (Option Value)} {ocm7 kVm7 dcm7 pmm7 cdm7 ctm7 : Value}
    (am7 : PySem.W.findIn K (.ref S) "is_standing" = some (some (.ref fm7)))
    (im7 : PySem.W.isFn K (.ref fm7) = true)
    (lm7 : K.lookup fm7 = some ⟨ocm7, odm7, .func (PySem.W.fnOf "is_standing" "System.is_standing" (defArgs (cS 10)) (defBody (cS 10)) (defScope (cS 10)) .none kVm7 dcm7 pmm7 anm7 cdm7 ctm7), slm7⟩)
    (cm7 : PySem.W.codeIn K cdm7 "System.is_standing" = true) (km7 : PySem.W.keepIn K (.ref fm7) = true)
    {fm8 : Addr} {odm8 anm8 : Option Addr} {slm8 : Array (Option Value)} {ocm8 kVm8 dcm8 pmm8 cdm8 ctm8 : Value}
    (am8 : PySem.W.findIn K (.ref S) "is_above" = some (some (.ref fm8)))
    (im8 : PySem.W.isFn K (.ref fm8) = true)
    (lm8 : K.lookup fm8 = some ⟨ocm8, odm8, .func (PySem.W.fnOf "is_above" "System.is_above" (defArgs (cS 11)) (defBody (cS 11)) (defScope (cS 11)) .none kVm8 dcm8 pmm8 anm8 cdm8 ctm8), slm8⟩)
    (cm8 : PySem.W.codeIn K cdm8 "System.is_above" = true) (km8 : PySem.W.keepIn K (.ref fm8) = true)
    {pp0 : Addr} {rest0 : List Value}
    {fp0 : Addr} {odp0 anp0 : Option Addr} {slp0 : Array (Option Value)} {ocp0 kVp0 dcp0 pmp0 cdp0 ctp0 : Value}
    (aF0 : PySem.W.findIn K (.ref CP) "size" = some (some (.ref pp0))) (gF0 : PySem.W.specialIn K (.ref pp0) "__get__" = some (some (.builtin "property.__get__"))) (tF0 : PySem.W.takesIn K (.ref pp0) = some true) (rF0 : PySem.W.recIn K pp0 "property" = some (.ref fp0 :: rest0))
    (lp0 : K.lookup fp0 = some ⟨ocp0, odp0, .func (PySem.W.fnOf "size" "Program.size" (defArgs (cP 3)) (defBody (cP 3)) (defScope (cP 3)) .none kVp0 dcp0 pmp0 anp0 cdp0 ctp0), slp0⟩)
    (cp0 : PySem.W.codeIn K cdp0 "Program.size" = true) (kp0 : PySem.W.keepIn K (.ref fp0) = true)
    (pgC : PySem.W.plainGet K C Str.empty = true) (hdC : PySem.W.hasDictIn K C = true) (poC : PySem.W.plainOver K C = true) (saC : PySem.W.findIn K (.ref C) "__setattr__" = some (some (.builtin "object.__setattr__"))) (mkC : PySem.W.makesIn K C = true) (kcC : PySem.W.keepIn K (.ref C) = true)
    (nfC_names : PySem.W.findIn K (.ref C) "_names" = some none)
    (nfC_bounds : PySem.W.findIn K (.ref C) "_bounds" = some none)
    (nfC_spots : PySem.W.findIn K (.ref C) "_spots" = some none)
    (iCaC : PySem.W.findIn K (.ref C) "__class__" = some (some (.builtin "object.__class__"))) (iCmC : PySem.W.mroIn K C (.type "object") = some true) (iCcC : PySem.W.kitOne K (.ref C) (.ref C) = some true)
    (pgCP : PySem.W.plainGet K CP Str.empty = true) (hdCP : PySem.W.hasDictIn K CP = true) (poCP : PySem.W.plainOver K CP = true) (saCP : PySem.W.findIn K (.ref CP) "__setattr__" = some (some (.builtin "object.__setattr__"))) (mkCP : PySem.W.makesIn K CP = true) (kcCP : PySem.W.keepIn K (.ref CP) = true)
    (nfCP_places : PySem.W.findIn K (.ref CP) "_places" = some none)
    (nfCP_used : PySem.W.findIn K (.ref CP) "_used" = some none)
    (iCaCP : PySem.W.findIn K (.ref CP) "__class__" = some (some (.builtin "object.__class__"))) (iCmCP : PySem.W.mroIn K CP (.type "object") = some true) (iCcCP : PySem.W.kitOne K (.ref CP) (.ref CP) = some true)
    (pgS : PySem.W.plainGet K S Str.empty = true) (hdS : PySem.W.hasDictIn K S = true) (poS : PySem.W.plainOver K S = true) (saS : PySem.W.findIn K (.ref S) "__setattr__" = some (some (.builtin "object.__setattr__"))) (mkS : PySem.W.makesIn K S = true) (kcS : PySem.W.keepIn K (.ref S) = true)
    (nfS_lanes : PySem.W.findIn K (.ref S) "_lanes" = some none)
    (nfS_server : PySem.W.findIn K (.ref S) "_server" = some none)
    (nfS_kinds : PySem.W.findIn K (.ref S) "_kinds" = some none)
    (nfS_seats : PySem.W.findIn K (.ref S) "_seats" = some none)
    (nfS_spots : PySem.W.findIn K (.ref S) "_spots" = some none)
    (iCaS : PySem.W.findIn K (.ref S) "__class__" = some (some (.builtin "object.__class__"))) (iCmS : PySem.W.mroIn K S (.type "object") = some true) (iCcS : PySem.W.kitOne K (.ref S) (.ref S) = some true)
    (ocg : PySem.W.specialIn K (.builtin "object.__class__") "__get__" = some (some (.builtin "getset_descriptor.__get__"))) (oct : PySem.W.takesIn K (.builtin "object.__class__") = some true)
    {tl0 tn0 : Tok} (gLet : PySem.W.nsIn K mainGlobals "LETTERS" = some (some (.str abc tl0))) (gLong : PySem.W.nsIn K mainGlobals "LONGEST" = some (some (.int 8 tn0)))
    {aW aM : Addr} (gW : PySem.W.nsIn K mainGlobals "WORDS" = some (some (.ref aW))) (gM : PySem.W.nsIn K mainGlobals "MODES" = some (some (.ref aM)))
    {odW : Option Addr} {t1 t2 t3 t4 : Tok} {nW : Nat} {slW : Array (Option Value)} (lW : K.lookup aW = some ⟨.type "tuple", odW, .seq #[.str "close" t1, .str "ended" t2, .str "send" t3, .str "take" t4] nW, slW⟩)
    {odM : Option Addr} {t5 t6 : Tok} {nM : Nat} {slM : Array (Option Value)} (lM : K.lookup aM = some ⟨.type "tuple", odM, .seq #[.str "any" t5, .str "first" t6] nM, slM⟩)
    (z_len : PySem.W.nsIn K mainGlobals "len" = some none)
    (z_int : PySem.W.nsIn K mainGlobals "int" = some none)
    (z_abs : PySem.W.nsIn K mainGlobals "abs" = some none)
    (z_range : PySem.W.nsIn K mainGlobals "range" = some none)
    (z_repr : PySem.W.nsIn K mainGlobals "repr" = some none)
    (z_isinstance : PySem.W.nsIn K mainGlobals "isinstance" = some none)
    (z_all : PySem.W.nsIn K mainGlobals "all" = some none)
    (z_tuple : PySem.W.nsIn K mainGlobals "tuple" = some none)
    (z_list : PySem.W.nsIn K mainGlobals "list" = some none)
    (z_str : PySem.W.nsIn K mainGlobals "str" = some none)
    (z_bool : PySem.W.nsIn K mainGlobals "bool" = some none)
    (z_dict : PySem.W.nsIn K mainGlobals "dict" = some none)
    (z_sorted : PySem.W.nsIn K mainGlobals "sorted" = some none)
    (z_enumerate : PySem.W.nsIn K mainGlobals "enumerate" = some none)
    (z_zip : PySem.W.nsIn K mainGlobals "zip" = some none)
    (z_max : PySem.W.nsIn K mainGlobals "max" = some none)
    : ∃ fd : FuncData, (∀ (s : Shared) (v : Value), BindsTo s fd ⟨[v], []⟩ [("_law_script", v)]) ∧ ∀ base : Heap, K.In base → base.Ns mainGlobals mg → FnG l.prog w K mg base 10 fa fd ["_law_script"] (spLaw K) := by
  have e := hfa.symm.trans (PySem.W.mg_of X G a34)
  cases e
  have F0 := fun_mk (st := s_is_integer) l0 c0 k0
  have b0 := F0.binds (ps := ["thing"]) fun _ _ _ _ _ _ us hl => match us, hl with | [_], _ => rfl
  have g0 := PySem.W.mg_of X G a0
  have F1 := fun_mk (st := s_is_number) l1 c1 k1
  have b1 := F1.binds (ps := ["thing"]) fun _ _ _ _ _ _ us hl => match us, hl with | [_], _ => rfl
  have g1 := PySem.W.mg_of X G a1
  have F2 := fun_mk (st := s_is_name) l2 c2 k2
  have b2 := F2.binds (ps := ["thing"]) fun _ _ _ _ _ _ us hl => match us, hl with | [_], _ => rfl
  have g2 := PySem.W.mg_of X G a2
  have F3 := fun_mk (st := s_is_word) l3 c3 k3
  have b3 := F3.binds (ps := ["thing"]) fun _ _ _ _ _ _ us hl => match us, hl with | [_], _ => rfl
  have g3 := PySem.W.mg_of X G a3
  have F4 := fun_mk (st := s_mode) l4 c4 k4
  have b4 := F4.binds (ps := ["thing"]) fun _ _ _ _ _ _ us hl => match us, hl with | [_], _ => rfl
  have g4 := PySem.W.mg_of X G a4
  have F5 := fun_mk (st := s_is_arm) l5 c5 k5
  have b5 := F5.binds (ps := ["thing"]) fun _ _ _ _ _ _ us hl => match us, hl with | [_], _ => rfl
  have g5 := PySem.W.mg_of X G a5
  have F6 := fun_mk (st := s_row) l6 c6 k6
  have b6 := F6.binds (ps := ["thing", "is_part"]) fun _ _ _ _ _ _ us hl => match us, hl with | [_, _], _ => rfl
  have g6 := PySem.W.mg_of X G a6
  have F7 := fun_mk (st := s_is_bound) l7 c7 k7
  have b7 := F7.binds (ps := ["thing"]) fun _ _ _ _ _ _ us hl => match us, hl with | [_], _ => rfl
  have g7 := PySem.W.mg_of X G a7
  have F8 := fun_mk (st := s_is_bounds) l8 c8 k8
  have b8 := F8.binds (ps := ["thing"]) fun _ _ _ _ _ _ us hl => match us, hl with | [_], _ => rfl
  have g8 := PySem.W.mg_of X G a8
  have F9 := fun_mk (st := s_isSt) l9 c9 k9
  have b9 := F9.binds (ps := ["thing", "bound"]) fun _ _ _ _ _ _ us hl => match us, hl with | [_, _], _ => rfl
  have g9 := PySem.W.mg_of X G a9
  have F10 := fun_mk (st := s_place) l10 c10 k10
  have b10 := F10.binds (ps := ["thing"]) fun _ _ _ _ _ _ us hl => match us, hl with | [_], _ => rfl
  have g10 := PySem.W.mg_of X G a10
  have F11 := fun_mk (st := s_else) l11 c11 k11
  have b11 := F11.binds (ps := ["arm"]) fun _ _ _ _ _ _ us hl => match us, hl with | [_], _ => rfl
  have g11 := PySem.W.mg_of X G a11
  have F12 := fun_mk (st := s_ckl) l12 c12 k12
  have b12 := F12.binds (ps := ["lanes", "programs"]) fun _ _ _ _ _ _ us hl => match us, hl with | [_, _], _ => rfl
  have g12 := PySem.W.mg_of X G a12
  have F13 := fun_mk (st := s_kinds) l13 c13 k13
  have b13 := F13.binds (ps := ["thing"]) fun _ _ _ _ _ _ us hl => match us, hl with | [_], _ => rfl
  have g13 := PySem.W.mg_of X G a13
  have F14 := fun_mk (st := s_counts) l14 c14 k14
  have b14 := F14.binds (ps := ["thing", "many"]) fun _ _ _ _ _ _ us hl => match us, hl with | [_, _], _ => rfl
  have g14 := PySem.W.mg_of X G a14
  have F15 := fun_mk (st := s__law_bag) l15 c15 k15
  have b15 := F15.binds (ps := ["_law_script"]) fun _ _ _ _ _ _ us hl => match us, hl with | [_], _ => rfl
  have g15 := PySem.W.mg_of X G a15
  have F16 := fun_mk (st := s__law_take) l16 c16 k16
  have b16 := F16.binds (ps := ["_law_bag_here", "_law_many"]) fun _ _ _ _ _ _ us hl => match us, hl with | [_, _], _ => rfl
  have g16 := PySem.W.mg_of X G a16
  have F17 := fun_mk (st := s__law_alike) l17 c17 k17
  have b17 := F17.binds (ps := ["_law_found", "_law_due"]) fun _ _ _ _ _ _ us hl => match us, hl with | [_, _], _ => rfl
  have g17 := PySem.W.mg_of X G a17
  have F18 := fun_mk (st := s__law_names) l18 c18 k18
  have b18 := F18.binds (ps := ["_law_bag_here", "_law_many"]) fun _ _ _ _ _ _ us hl => match us, hl with | [_, _], _ => rfl
  have g18 := PySem.W.mg_of X G a18
  have F19 := fun_mk (st := s__law_is_integer) l19 c19 k19
  have b19 := F19.binds (ps := ["_law_thing"]) fun _ _ _ _ _ _ us hl => match us, hl with | [_], _ => rfl
  have g19 := PySem.W.mg_of X G a19
  have F20 := fun_mk (st := s_bounds) l20 c20 k20
  have b20 := F20.binds (ps := ["_law_bag_here", "_law_names_here", "_law_greatest"]) fun _ _ _ _ _ _ us hl => match us, hl with | [_, _, _], _ => rfl
  have g20 := PySem.W.mg_of X G a20
  have F21 := fun_mk (st := s__law_arm) l21 c21 k21
  have b21 := F21.binds (ps := ["_law_bag_here", "_law_names_here", "_law_places"]) fun _ _ _ _ _ _ us hl => match us, hl with | [_, _, _], _ => rfl
  have g21 := PySem.W.mg_of X G a21
  have F22 := fun_mk (st := s__law_program) l22 c22 k22
  have b22 := F22.binds (ps := ["_law_bag_here", "_law_names_here", "_law_places"]) fun _ _ _ _ _ _ us hl => match us, hl with | [_, _, _], _ => rfl
  have g22 := PySem.W.mg_of X G a22
  have F23 := fun_mk (st := s__law_model) l23 c23 k23
  have b23 := F23.binds (ps := ["_law_bag_here", "_law_many", "_law_greatest", "_law_kinds", "_law_places"]) fun _ _ _ _ _ _ us hl => match us, hl with | [_, _, _, _, _], _ => rfl
  have g23 := PySem.W.mg_of X G a23
  have F24 := fun_mk (st := s__law_made) l24 c24 k24
  have b24 := F24.binds (ps := ["_law_model_here"]) fun _ _ _ _ _ _ us hl => match us, hl with | [_], _ => rfl
  have g24 := PySem.W.mg_of X G a24
  have F25 := fun_mk (st := s_lstate) l25 c25 k25
  have b25 := F25.binds (ps := ["_law_bag_here", "_law_bound"]) fun _ _ _ _ _ _ us hl => match us, hl with | [_, _], _ => rfl
  have g25 := PySem.W.mg_of X G a25
  have F26 := fun_mk (st := s_lcontent) l26 c26 k26
  have b26 := F26.binds (ps := ["_law_bag_here", "_law_bounds_here"]) fun _ _ _ _ _ _ us hl => match us, hl with | [_, _], _ => rfl
  have g26 := PySem.W.mg_of X G a26
  have F27 := fun_mk (st := s_odd) l27 c27 k27
  have b27 := F27.binds (ps := ["_law_bag_here", "_law_name"]) fun _ _ _ _ _ _ us hl => match us, hl with | [_, _], _ => rfl
  have g27 := PySem.W.mg_of X G a27
  have F28 := fun_mk (st := s__law_seats) l28 c28 k28
  have b28 := F28.binds (ps := ["_law_model_here"]) fun _ _ _ _ _ _ us hl => match us, hl with | [_], _ => rfl
  have g28 := PySem.W.mg_of X G a28
  have F29 := fun_mk (st := s__law_standing) l29 c29 k29
  have b29 := F29.binds (ps := ["_law_bag_here", "_law_model_here"]) fun _ _ _ _ _ _ us hl => match us, hl with | [_, _], _ => rfl
  have g29 := PySem.W.mg_of X G a29
  have F30 := fun_mk (st := s__law_is_number) l30 c30 k30
  have b30 := F30.binds (ps := ["_law_thing"]) fun _ _ _ _ _ _ us hl => match us, hl with | [_], _ => rfl
  have g30 := PySem.W.mg_of X G a30
  have F31 := fun_mk (st := s__law_is_standing) l31 c31 k31
  have b31 := F31.binds (ps := ["_law_model_here", "_law_thing"]) fun _ _ _ _ _ _ us hl => match us, hl with | [_, _], _ => rfl
  have g31 := PySem.W.mg_of X G a31
  have F32 := fun_mk (st := s__law_near) l32 c32 k32
  have b32 := F32.binds (ps := ["_law_bag_here", "_law_model_here", "_law_standing_here"]) fun _ _ _ _ _ _ us hl => match us, hl with | [_, _, _], _ => rfl
  have g32 := PySem.W.mg_of X G a32
  have F33 := fun_mk (st := s__law_above_right) l33 c33 k33
  have b33 := F33.binds (ps := ["_law_bag_here", "_law_model_here", "_law_system", "_law_standing_here"]) fun _ _ _ _ _ _ us hl => match us, hl with | [_, _, _, _], _ => rfl
  have g33 := PySem.W.mg_of X G a33
  have F34 := fun_mk (st := s_law) l34 c34 k34
  have Fm0 := fun_mk (st := (cL 0)) lm0 cm0 km0
  have bm0 := Fm0.binds (ps := ["self", "bounds"]) fun _ _ _ _ _ _ us hl => match us, hl with | [_, _], _ => rfl
  have Fm1 := fun_mk (st := (cL 4)) lm1 cm1 km1
  have bm1 := Fm1.binds (ps := ["self", "thing"]) fun _ _ _ _ _ _ us hl => match us, hl with | [_, _], _ => rfl
  have Fm2 := fun_mk (st := (cL 10)) lm2 cm2 km2
  have bm2 := Fm2.binds (ps := ["self", "thing"]) fun _ _ _ _ _ _ us hl => match us, hl with | [_, _], _ => rfl
  have Fm3 := fun_mk (st := (cP 0)) lm3 cm3 km3
  have bm3 := Fm3.binds (ps := ["self", "places"]) fun _ _ _ _ _ _ us hl => match us, hl with | [_, _], _ => rfl
  have Fm4 := fun_mk (st := (cP 1)) lm4 cm4 km4
  have bm4 := Fm4.binds (ps := ["self"]) fun _ _ _ _ _ _ us hl => match us, hl with | [_], _ => rfl
  have Fm5 := fun_mk (st := (cP 11)) lm5 cm5 km5
  have bm5 := Fm5.binds (ps := ["self"]) fun _ _ _ _ _ _ us hl => match us, hl with | [_], _ => rfl
  have Fm6 := fun_mk (st := (cS 0)) lm6 cm6 km6
  have bm6 := Fm6.binds (ps := ["self", "lanes", "server", "kinds"]) fun _ _ _ _ _ _ us hl => match us, hl with | [_, _, _, _], _ => rfl
  have Fm7 := fun_mk (st := (cS 10)) lm7 cm7 km7
  have bm7 := Fm7.binds (ps := ["self", "thing"]) fun _ _ _ _ _ _ us hl => match us, hl with | [_, _], _ => rfl
  have Fm8 := fun_mk (st := (cS 11)) lm8 cm8 km8
  have bm8 := Fm8.binds (ps := ["self", "one", "other"]) fun _ _ _ _ _ _ us hl => match us, hl with | [_, _, _], _ => rfl
  have Fp0 := fun_mk (st := (cP 3)) lp0 cp0 kp0
  have bp0 := Fp0.binds (ps := ["self"]) fun _ _ _ _ _ _ us hl => match us, hl with | [_], _ => rfl
  have T : BT mg := ⟨PySem.W.mg_none_of X G z_len, PySem.W.mg_none_of X G z_int, PySem.W.mg_none_of X G z_abs, PySem.W.mg_none_of X G z_range, PySem.W.mg_none_of X G z_repr, PySem.W.mg_none_of X G z_isinstance, PySem.W.mg_none_of X G z_all, PySem.W.mg_none_of X G z_tuple, PySem.W.mg_none_of X G z_list, PySem.W.mg_none_of X G z_str, PySem.W.mg_none_of X G z_bool, PySem.W.mg_none_of X G z_dict, PySem.W.mg_none_of X G z_sorted⟩
  have hW : ∀ H, SqT K H aW wordsV := fun H => Or.inr ⟨_, _, _, lW, rfl, rfl, by show 4 ≤ sizeLine; decide, .cons ⟨_, rfl⟩ (.cons ⟨_, rfl⟩ (.cons ⟨_, rfl⟩ (.cons ⟨_, rfl⟩ .nil)))⟩
  have hM : ∀ H, SqT K H aM modesV := fun H => Or.inr ⟨_, _, _, lM, rfl, rfl, by show 2 ≤ sizeLine; decide, .cons ⟨_, rfl⟩ (.cons ⟨_, rfl⟩ .nil)⟩
  refine ⟨PySem.W.fnOf "law" "law" (defArgs s_law) (defBody s_law) (defScope s_law) .none kV34 dc34 pm34 an34 cd34 ct34, fun s v => .of_eq rfl, fun base _ _ => ?_⟩
  have LL : LT K mg C := ⟨⟨pgC, hdC, poC, saC⟩, nfC_names, nfC_bounds, nfC_spots, PySem.W.mg_of X G aGC, PySem.W.mg_none_of X G z_enumerate, PySem.W.mg_none_of X G z_zip⟩
  have LP : PT K mg CP := ⟨⟨pgCP, hdCP, poCP, saCP⟩, nfCP_places, nfCP_used, PySem.W.mg_of X G aGCP, PySem.W.mg_none_of X G z_enumerate⟩
  have SL : ST K mg S := ⟨⟨pgS, hdS, poS, saS⟩, nfS_lanes, nfS_server, nfS_kinds, nfS_seats, nfS_spots, PySem.W.mg_of X G aGS⟩
  have IL : IsC K C := ⟨iCaC, ocg, oct, iCmC, iCcC⟩
  have IP : IsC K CP := ⟨iCaCP, ocg, oct, iCmCP, iCcCP⟩
  have C1 : Ca l.prog w K mg base 1 "is_integer" ["thing"] (spPred Any isIntD) := ⟨_, _, ok_is_integer F0 T, g0, k0, b0⟩
  have C2 : Ca l.prog w K mg base 2 "is_number" ["thing"] (spPred Any isNumD) := ⟨_, _, ok_is_number F1 C1, g1, k1, b1⟩
  have C3 : Ca l.prog w K mg base 1 "is_name" ["thing"] (spPred Ok1 isNameD) := ⟨_, _, ok_is_name F2 T (PySem.W.mg_of X G gLet) (PySem.W.mg_of X G gLong), g2, k2, b2⟩
  have CW : Ca l.prog w K mg base 1 "is_word" ["thing"] (spPred Any isWordD) := ⟨_, _, ok_is_word F3 T (PySem.W.mg_of X G gW) hW, g3, k3, b3⟩
  have CMd : Ca l.prog w K mg base 1 "is_mode" ["thing"] (spGood fun d => d = .str "first" ∨ d = .str "any") := ⟨_, _, ok_mode F4 T (PySem.W.mg_of X G gM) hM, g4, k4, b4⟩
  have okA := ok_is_arm (P := l.prog) (w := w) (base := base) F5 T C2 C3 CW
  have okA2 : FnOk l.prog w K mg base CX0 3 f5 _ ["thing"] (spGood GA) := okA.imp fun vs H Q E h => good_arm h
  have CRA : Ca l.prog w K mg base 4 "is_row_of" ["thing", "is_part"] (spRow GA f5) := ⟨_, _, ok_row F6 T okA2 k5 b5, g6, k6, b6⟩
  have okP := ok_place (P := l.prog) (w := w) (base := base) F10 T g5 CMd CRA
  have CRP : Ca l.prog w K mg base 6 "is_row_of" ["thing", "is_part"] (spRow GP f10) := ⟨_, _, ok_row F6 T okP k10 b10, g6, k6, b6⟩
  have CE : Ca l.prog w K mg base 1 "is_else" ["arm"] (spElse) := ⟨_, _, ok_else F11 T, g11, k11, b11⟩
  have C4 : Ca l.prog w K mg base 2 "is_bound" ["thing"] (spPred Any isBoundD) := ⟨_, _, ok_is_bound F7 C1, g7, k7, b7⟩
  have C5 : Ca l.prog w K mg base 3 "is_bounds" ["thing"] (spIsBounds) := ⟨_, _, ok_is_bounds F8 T C3 C4, g8, k8, b8⟩
  have C6 : Ca l.prog w K mg base 3 "is_state" ["thing", "bound"] (spIsSt) := ⟨_, _, ok_isSt F9 T C2, g9, k9, b9⟩
  have ML : MkL l.prog w K mg base C := ⟨_, _, ok_init Fm0 T LL C5, ⟨mkC, am0, im0, kcC⟩, bm0⟩
  have MH : Cm l.prog w K mg base C 2 "__contains__" ["self", "thing"] (spHas C) := ⟨_, _, ok_has Fm1 T LL, ⟨am1, im1, km1⟩, bm1⟩
  have MIC : Cm l.prog w K mg base C 4 "is_content" ["self", "thing"] (spIsCt C) := ⟨_, _, ok_isCt Fm2 T LL C6, ⟨am2, im2, km2⟩, bm2⟩
  have MC : ChM l.prog w K mg base CP := ⟨_, _, ok_check Fm4 T LP CE, ⟨am4, im4, km4⟩, bm4⟩
  have MP : MkP l.prog w K mg base CP := ⟨_, _, ok_prog Fm3 T LP g10 CRP CE MC, ⟨mkCP, am3, im3, kcCP⟩, bm3⟩
  have MU : UsM l.prog w K mg base CP := ⟨_, _, ok_used Fm5 T LP, ⟨am5, im5, km5⟩, bm5⟩
  have PZ : Pr l.prog w K mg base CP 1 "size" (spSz CP) := ⟨_, _, _, ok_sz Fp0 T LP, ⟨aF0, gF0, tF0, _, rF0⟩, bp0⟩
  have CL : Ca l.prog w K mg base 3 "check_lanes" ["lanes", "programs"] (spCkL C CP) := ⟨_, _, ok_ckl F12 T LP MU MH, g12, k12, b12⟩
  have CK : Ca l.prog w K mg base 2 "is_kinds" ["thing"] (spKinds CP) := ⟨_, _, ok_kinds F13 T LP IP C3, g13, k13, b13⟩
  have CC : Ca l.prog w K mg base 3 "is_counts" ["thing", "many"] (spCounts) := ⟨_, _, ok_counts F14 T C2, g14, k14, b14⟩
  have MS : MkS l.prog w K mg base S C CP := ⟨_, _, ok_sys Fm6 T SL LL LP IL IP CK CL PZ, ⟨mkS, am6, im6, kcS⟩, bm6⟩
  have MIs : Cm l.prog w K mg base S 5 "is_standing" ["self", "thing"] (spIsStd S C CP) := ⟨_, _, ok_isStd Fm7 T SL LL LP C2 CC MIC PZ, ⟨am7, im7, km7⟩, bm7⟩
  have MAb : Cm l.prog w K mg base S 1 "is_above" ["self", "one", "other"] (spAbove S C CP) := ⟨_, _, ok_above Fm8 T LL, ⟨am8, im8, km8⟩, bm8⟩
  have CB : Ca l.prog w K mg base 1 "_law_bag" ["_law_script"] (spBag K) := ⟨_, _, hideBag (ok_bag F15 T), g15, k15, b15⟩
  have CT : Ca l.prog w K mg base 1 "_law_take" ["_law_bag_here", "_law_many"] (spTake) := ⟨_, _, hide (ok_take F16 T), g16, k16, b16⟩
  have CA : Cg l.prog w K mg base 1 "_law_alike" ["_law_found", "_law_due"] (spAlike) := ⟨_, _, ok_alike F17 T, g17, k17, b17⟩
  have CN : Ca l.prog w K mg base 2 "_law_names" ["_law_bag_here", "_law_many"] (spNames) := ⟨_, _, ok_names F18 T CT, g18, k18, b18⟩
  have CBo : Ca l.prog w K mg base 2 "_law_bounds" ["_law_bag_here", "_law_names_here", "_law_greatest"] (spBounds) := ⟨_, _, ok_bounds F20 T CT, g20, k20, b20⟩
  have CAr : Ca l.prog w K mg base 2 "_law_arm" ["_law_bag_here", "_law_names_here", "_law_places"] (spLArm) := ⟨_, _, ok_larm F21 T CT, g21, k21, b21⟩
  have CPr : Ca l.prog w K mg base 3 "_law_program" ["_law_bag_here", "_law_names_here", "_law_places"] (spLProg) := ⟨_, _, ok_lprog F22 T CT CAr, g22, k22, b22⟩
  have CMo : Ca l.prog w K mg base 4 "_law_model" ["_law_bag_here", "_law_many", "_law_greatest", "_law_kinds", "_law_places"] (spModel) := ⟨_, _, ok_model F23 T CT CN CBo CPr, g23, k23, b23⟩
  have CMa : Ca l.prog w K mg base 9 "_law_made" ["_law_model_here"] (spMade S C CP) := ⟨_, _, ok_made F24 T SL LL LP ML MP MS, g24, k24, b24⟩
  have CS : Ca l.prog w K mg base 2 "_law_state" ["_law_bag_here", "_law_bound"] (spLState) := ⟨_, _, ok_lstate F25 CT, g25, k25, b25⟩
  have CCt : Ca l.prog w K mg base 3 "_law_content" ["_law_bag_here", "_law_bounds_here"] (spLContent) := ⟨_, _, ok_lcontent F26 T CS, g26, k26, b26⟩
  have COd : Ca l.prog w K mg base 2 "_law_odd" ["_law_bag_here", "_law_name"] (spOdd) := ⟨_, _, ok_odd F27 T CT, g27, k27, b27⟩
  have CSe : Ca l.prog w K mg base 1 "_law_seats" ["_law_model_here"] (spSeats) := ⟨_, _, ok_seats F28 T, g28, k28, b28⟩
  have CSt : Ca l.prog w K mg base 4 "_law_standing" ["_law_bag_here", "_law_model_here"] (spStd) := ⟨_, _, ok_std F29 T CT CSe CCt, g29, k29, b29⟩
  have CLi : Ca l.prog w K mg base 1 "_law_is_integer" ["_law_thing"] (spPred Any isIntD) := ⟨_, _, ok_li F19 T, g19, k19, b19⟩
  have CLn : Ca l.prog w K mg base 2 "_law_is_number" ["_law_thing"] (spPred Any isNumD) := ⟨_, _, ok_ln F30 CLi, g30, k30, b30⟩
  have CIs : Ca l.prog w K mg base 3 "_law_is_standing" ["_law_model_here", "_law_thing"] (spLIs) := ⟨_, _, ok_lis F31 T CSe CLn, g31, k31, b31⟩
  have CNe : Ca l.prog w K mg base 3 "_law_near" ["_law_bag_here", "_law_model_here", "_law_standing_here"] (spNear) := ⟨_, _, ok_near F32 T CT COd, g32, k32, b32⟩
  have CAb : Cg l.prog w K mg base 4 "_law_above_right" ["_law_bag_here", "_law_model_here", "_law_system", "_law_standing_here"] (spAbR S C CP) := ⟨_, _, ok_abr F33 T (PySem.W.mg_none_of X G z_max) SL CT CCt CA MAb, g33, k33, b33⟩
  exact ok_law F34 T SL CB CT CMo CMa CSt CNe CIs CA CAb MIs
end K28
open PySem PySem.W PyProof.Rows
set_option maxRecDepth 100000 in
set_option maxHeartbeats 0 in
theorem PySem.Challenge.cw_openlanes_k28_standings_holds : PySem.Challenge.rw_openlanes_k28_standings.Holds := by
  w_on; o_law; k_head; (case hw => w_witness2)
  k_fill
  refine Ol.walkG (l := PySem.Challenge.rw_openlanes_k28_standings) (n := 63) (k := 10) (x := "_law_script") (sp := fun w => K28.spLaw _) rfl (by rfl) (by decide) rfl ⟨rfl, by decide, by decide⟩ (fun w h Y => PySem.W.kIn_of Y) (fun w => by rfl) ?F (fun w H a ns hl hS hL => ⟨a, ns, rfl, hS, hL, hl, fun _ => rfl⟩)
  case F =>
    intro w mg fa h KX G hmg
    refine' K28.all_mk KX G hmg ?a0 ?l0 ?c0 ?k0 ?a1 ?l1 ?c1 ?k1 ?a2 ?l2 ?c2 ?k2 ?a3 ?l3 ?c3 ?k3 ?a4 ?l4 ?c4 ?k4 ?a5 ?l5 ?c5 ?k5 ?a6 ?l6 ?c6 ?k6 ?a7 ?l7 ?c7 ?k7 ?a8 ?l8 ?c8 ?k8 ?a9 ?l9 ?c9 ?k9 ?a10 ?l10 ?c10 ?k10 ?a11 ?l11 ?c11 ?k11 ?a12 ?l12 ?c12 ?k12 ?a13 ?l13 ?c13 ?k13 ?a14 ?l14 ?c14 ?k14 ?a15 ?l15 ?c15 ?k15 ?a16 ?l16 ?c16 ?k16 ?a17 ?l17 ?c17 ?k17 ?a18 ?l18 ?c18 ?k18 ?a19 ?l19 ?c19 ?k19 ?a20 ?l20 ?c20 ?k20 ?a21 ?l21 ?c21 ?k21 ?a22 ?l22 ?c22 ?k22 ?a23 ?l23 ?c23 ?k23 ?a24 ?l24 ?c24 ?k24 ?a25 ?l25 ?c25 ?k25 ?a26 ?l26 ?c26 ?k26 ?a27 ?l27 ?c27 ?k27 ?a28 ?l28 ?c28 ?k28 ?a29 ?l29 ?c29 ?k29 ?a30 ?l30 ?c30 ?k30 ?a31 ?l31 ?c31 ?k31 ?a32 ?l32 ?c32 ?k32 ?a33 ?l33 ?c33 ?k33 ?a34 ?l34 ?c34 ?k34 ?aGC ?aGCP ?aGS ?am0 ?im0 ?lm0 ?cm0 ?km0 ?am1 ?im1 ?lm1 ?cm1 ?km1 ?am2 ?im2 ?lm2 ?cm2 ?km2 ?am3 ?im3 ?lm3 ?cm3 ?km3 ?am4 ?im4 ?lm4 ?cm4 ?km4 ?am5 ?im5 ?lm5 ?cm5 ?km5 ?am6 ?im6 ?lm6 ?cm6 ?km6 ?am7 ?im7 ?lm7 ?cm7 ?km7 ?am8 ?im8 ?lm8 ?cm8 ?km8 ?aF0 ?gF0 ?tF0 ?rF0 ?lp0 ?cp0 ?kp0 ?pgC ?hdC ?poC ?saC ?mkC ?kcC ?nfC_names ?nfC_bounds ?nfC_spots ?iCaC ?iCmC ?iCcC ?pgCP ?hdCP ?poCP ?saCP ?mkCP ?kcCP ?nfCP_places ?nfCP_used ?iCaCP ?iCmCP ?iCcCP ?pgS ?hdS ?poS ?saS ?mkS ?kcS ?nfS_lanes ?nfS_server ?nfS_kinds ?nfS_seats ?nfS_spots ?iCaS ?iCmS ?iCcS ?ocg ?oct ?gLet ?gLong ?gW ?gM ?lW ?lM ?z_len ?z_int ?z_abs ?z_range ?z_repr ?z_isinstance ?z_all ?z_tuple ?z_list ?z_str ?z_bool ?z_dict ?z_sorted ?z_enumerate ?z_zip ?z_max
    (case a0 => k_is)
    (case l0 => k_is)
    (case c0 => k_is)
    (case k0 => k_is)
    (case a1 => k_is)
    (case l1 => k_is)
    (case c1 => k_is)
    (case k1 => k_is)
    (case a2 => k_is)
    (case l2 => k_is)
    (case c2 => k_is)
    (case k2 => k_is)
    (case a3 => k_is)
    (case l3 => k_is)
    (case c3 => k_is)
    (case k3 => k_is)
    (case a4 => k_is)
    (case l4 => k_is)
    (case c4 => k_is)
    (case k4 => k_is)
    (case a5 => k_is)
    (case l5 => k_is)
    (case c5 => k_is)
    (case k5 => k_is)
    (case a6 => k_is)
    (case l6 => k_is)
    (case c6 => k_is)
    (case k6 => k_is)
    (case a7 => k_is)
    (case l7 => k_is)
    (case c7 => k_is)
    (case k7 => k_is)
    (case a8 => k_is)
    (case l8 => k_is)
    (case c8 => k_is)
    (case k8 => k_is)
    (case a9 => k_is)
    (case l9 => k_is)
    (case c9 => k_is)
    (case k9 => k_is)
    (case a10 => k_is)
    (case l10 => k_is)
    (case c10 => k_is)
    (case k10 => k_is)
    (case a11 => k_is)
    (case l11 => k_is)
    (case c11 => k_is)
    (case k11 => k_is)
    (case a12 => k_is)
    (case l12 => k_is)
    (case c12 => k_is)
    (case k12 => k_is)
    (case a13 => k_is)
    (case l13 => k_is)
    (case c13 => k_is)
    (case k13 => k_is)
    (case a14 => k_is)
    (case l14 => k_is)
    (case c14 => k_is)
    (case k14 => k_is)
    (case a15 => k_is)
    (case l15 => k_is)
    (case c15 => k_is)
    (case k15 => k_is)
    (case a16 => k_is)
    (case l16 => k_is)
    (case c16 => k_is)
    (case k16 => k_is)
    (case a17 => k_is)
    (case l17 => k_is)
    (case c17 => k_is)
    (case k17 => k_is)
    (case a18 => k_is)
    (case l18 => k_is)
    (case c18 => k_is)
    (case k18 => k_is)
    (case a19 => k_is)
    (case l19 => k_is)
    (case c19 => k_is)
    (case k19 => k_is)
    (case a20 => k_is)
    (case l20 => k_is)
    (case c20 => k_is)
    (case k20 => k_is)
    (case a21 => k_is)
    (case l21 => k_is)
    (case c21 => k_is)
    (case k21 => k_is)
    (case a22 => k_is)
    (case l22 => k_is)
    (case c22 => k_is)
    (case k22 => k_is)
    (case a23 => k_is)
    (case l23 => k_is)
    (case c23 => k_is)
    (case k23 => k_is)
    (case a24 => k_is)
    (case l24 => k_is)
    (case c24 => k_is)
    (case k24 => k_is)
    (case a25 => k_is)
    (case l25 => k_is)
    (case c25 => k_is)
    (case k25 => k_is)
    (case a26 => k_is)
    (case l26 => k_is)
    (case c26 => k_is)
    (case k26 => k_is)
    (case a27 => k_is)
    (case l27 => k_is)
    (case c27 => k_is)
    (case k27 => k_is)
    (case a28 => k_is)
    (case l28 => k_is)
    (case c28 => k_is)
    (case k28 => k_is)
    (case a29 => k_is)
    (case l29 => k_is)
    (case c29 => k_is)
    (case k29 => k_is)
    (case a30 => k_is)
    (case l30 => k_is)
    (case c30 => k_is)
    (case k30 => k_is)
    (case a31 => k_is)
    (case l31 => k_is)
    (case c31 => k_is)
    (case k31 => k_is)
    (case a32 => k_is)
    (case l32 => k_is)
    (case c32 => k_is)
    (case k32 => k_is)
    (case a33 => k_is)
    (case l33 => k_is)
    (case c33 => k_is)
    (case k33 => k_is)
    (case a34 => k_is)
    (case l34 => k_is)
    (case c34 => k_is)
    (case k34 => k_is)
    (case aGC => k_is)
    (case aGCP => k_is)
    (case aGS => k_is)
    (case am0 => k_is)
    (case im0 => k_is)
    (case lm0 => k_is)
    (case cm0 => k_is)
    (case km0 => k_is)
    (case am1 => k_is)
    (case im1 => k_is)
    (case lm1 => k_is)
    (case cm1 => k_is)
    (case km1 => k_is)
    (case am2 => k_is)
    (case im2 => k_is)
    (case lm2 => k_is)
    (case cm2 => k_is)
    (case km2 => k_is)
    (case am3 => k_is)
    (case im3 => k_is)
    (case lm3 => k_is)
    (case cm3 => k_is)
    (case km3 => k_is)
    (case am4 => k_is)
    (case im4 => k_is)
    (case lm4 => k_is)
    (case cm4 => k_is)
    (case km4 => k_is)
    (case am5 => k_is)
    (case im5 => k_is)
    (case lm5 => k_is)
    (case cm5 => k_is)
    (case km5 => k_is)
    (case am6 => k_is)
    (case im6 => k_is)
    (case lm6 => k_is)
    (case cm6 => k_is)
    (case km6 => k_is)
    (case am7 => k_is)
    (case im7 => k_is)
    (case lm7 => k_is)
    (case cm7 => k_is)
    (case km7 => k_is)
    (case am8 => k_is)
    (case im8 => k_is)
    (case lm8 => k_is)
    (case cm8 => k_is)
    (case km8 => k_is)
    (case aF0 => k_is)
    (case gF0 => k_is)
    (case tF0 => k_is)
    (case rF0 => k_is)
    (case lp0 => k_is)
    (case cp0 => k_is)
    (case kp0 => k_is)
    (case pgC => k_is)
    (case hdC => k_is)
    (case poC => k_is)
    (case saC => k_is)
    (case mkC => k_is)
    (case kcC => k_is)
    (case nfC_names => k_is)
    (case nfC_bounds => k_is)
    (case nfC_spots => k_is)
    (case iCaC => k_is)
    (case iCmC => k_is)
    (case iCcC => first | k_is | rfl | decide +kernel)
    (case pgCP => k_is)
    (case hdCP => k_is)
    (case poCP => k_is)
    (case saCP => k_is)
    (case mkCP => k_is)
    (case kcCP => k_is)
    (case nfCP_places => k_is)
    (case nfCP_used => k_is)
    (case iCaCP => k_is)
    (case iCmCP => k_is)
    (case iCcCP => first | k_is | rfl | decide +kernel)
    (case pgS => k_is)
    (case hdS => k_is)
    (case poS => k_is)
    (case saS => k_is)
    (case mkS => k_is)
    (case kcS => k_is)
    (case nfS_lanes => k_is)
    (case nfS_server => k_is)
    (case nfS_kinds => k_is)
    (case nfS_seats => k_is)
    (case nfS_spots => k_is)
    (case iCaS => k_is)
    (case iCmS => k_is)
    (case iCcS => first | k_is | rfl | decide +kernel)
    (case ocg => k_is)
    (case oct => k_is)
    (case gLet => k_is)
    (case gLong => k_is)
    (case gW => k_is)
    (case gM => k_is)
    (case lW => k_is)
    (case lM => k_is)
    (case z_len => k_is)
    (case z_int => k_is)
    (case z_abs => k_is)
    (case z_range => k_is)
    (case z_repr => k_is)
    (case z_isinstance => k_is)
    (case z_all => k_is)
    (case z_tuple => k_is)
    (case z_list => k_is)
    (case z_str => k_is)
    (case z_bool => k_is)
    (case z_dict => k_is)
    (case z_sorted => k_is)
    (case z_enumerate => k_is)
    (case z_zip => k_is)
    (case z_max => k_is)

