import PyProof.Rows.All
import Wide.All
import OpenK.AllK
import Wide.FinOn
import HandS.ForMost
import HandS.Exc
import HandS.ExcOwn
import HandS.TryOnly
import HandS.WordsExc
import HandS.IsInst
import HandS.TupAny
import HandS.Wide
import HandS.TryMany
import KE.DataCmp
import KE.SortData
import HandS.Deep
import HandS.TupSets
import HandS.Zip
import HandS.HotCalls
import HandS.ExcIs
import KE.GoesEnumKw
import HandS.TupMul
import HandS.Defaults
import HandS.SetFor
import HandS.DictComp
import HandS.Strs
import HandS.Conv
import HandS.SetKeys
import HandS.TupLen
import HandS.Deep
import KE.DataMinMax
import PyProof.DictMoreH
import PySem.Challenge.RW_looksfar_k35_kinds
set_option Elab.async false
set_option linter.all false
set_option maxRecDepth 100000
set_option maxHeartbeats 400000
/-! ### defs that are called where no repr runs around (guards known to be none) -/
namespace LG
open PySem PySem.Spec PyProof.Rows L2
/-- a def's promise, kept wherever no repr is under way -/
structure FnG (P : Program) (w : World) (K : PySem.W.Frag) (mg : Str → Option Value) (base : Heap) (k : Nat) (f : Addr) (fd : FuncData) (ps : List Str) (sp : Sp) : Prop where
  many : ∀ vs H Q E, sp vs H Q E → vs.length = ps.length
  goes : ∀ (A : Around) (outer : List Env) (s : Shared) (H : Hp) (us : List Value) (vs : List V) (Q : VK) (E : XK), A.guards = some [] → Room k A → Env0 P w K mg base A outer s H →
    BindsTo s fd ⟨us, []⟩ (ps.zip us) → Vals vs us → sp vs H Q E → codeAny (model P w) A (.call (.ref f) ⟨us, []⟩) (CR CX0 outer P w H s Q E) s
section
variable {P : Program} {w : World} {K : PySem.W.Frag} {mg : Str → Option Value} {base : Heap}
theorem FnG.of {k : Nat} {f : Addr} {fd : FuncData} {ps : List Str} {sp : Sp} (F : FnOk P w K mg base CX0 k f fd ps sp) : FnG P w K mg base k f fd ps sp :=
  ⟨F.len, fun A outer s H us vs Q E _ hr e0 hb r h => F.run A outer s H ⟨us, []⟩ us vs Q E hr e0 hb r h⟩
theorem FnG.more {j k : Nat} {f : Addr} {fd : FuncData} {ps : List Str} {sp : Sp} (F : FnG P w K mg base j f fd ps sp) (h : j ≤ k) : FnG P w K mg base k f fd ps sp :=
  ⟨F.many, fun A outer s H us vs Q E hg hr => F.goes A outer s H us vs Q E hg (hr.mono h)⟩
theorem FnG.by {x qual : Str} {st : Stmt} {f : Addr} {fd : FuncData} {N ps : List Str} {k : Nat} {sp : Sp} (F : Fun K x qual st f fd) (S : FnScope N ps (defScope st)) (many : ∀ vs H Q E, sp vs H Q E → vs.length = ps.length)
    (body : ∀ (cdv : Value) (A : Around) (outer : List Env) (s : Shared) (H : Hp) (vs : List V) (Q : VK) (E : XK), (A.deeper (envOfC qual (defScope st) s.heap.objs.size f cdv)).guards = some [] →
      Room k (A.deeper (envOfC qual (defScope st) s.heap.objs.size f cdv)) → sp vs H Q E →
      ∃ t, PSs (cxOf CX0 P w K mg base N qual (defScope st) f cdv A outer s H E).nox (defBody st) t ∧ t { nx := fun _ H' => Q .non H', rt := Q } (start N vs) H) : FnG P w K mg base (k + 1) f fd ps sp := by
  obtain ⟨_, _, _, _, _, _, cdv, _, _, rfl, lk, code⟩ := F.ex
  refine ⟨many, fun A outer s H us vs Q E guard room e0 bind rel hsp => ?_⟩
  have inK : K.In s.heap := e0.mod.kin.keeps fun b o e => (e0.bs b o e).1
  have noLim : s.heap.NoLimit := e0.mod.nolimit.keeps fun b o e => (e0.bs b o e).1
  obtain ⟨t, run, start⟩ := body cdv A outer s H vs Q E guard (room.deeper _) hsp
  refine codeAny_call_function room.depth (inK _ _ lk) rfl S.co S.gen rfl (PySem.W.codeRec_of inK code) (bind _ _ _ _ ?_)
  refine wpAny_newFunctionEnv_cells S.kind (fun y hy => ?_) fun env he s1 made => ?_
  · rcases S.par y.1 (List.of_mem_zip (show (y.1, y.2) ∈ ps.zip us from hy)).1 with q | q
    · exact Or.inl q
    · exact Or.inr ⟨q, PySem.W.cellsFrom_some _ _ _ (Or.inl q)⟩
  subst he
  refine ⟨noLim.keeps made.toInCall.keep, codeAny_func ?_⟩
  have inv := inv_start (CX := CX0) (E := E) S room.hd e0 (many _ _ _ _ hsp) rel made
  refine wpAny_mono (run.nox.run [] s1 (L2.start N vs) H _ inv start) (fun flow s' got => ?_) fun _ _ bad => bad
  cases flow with
  | ret u =>
    obtain ⟨v, _, H', J, rv, q⟩ := got
    exact ⟨v, H', J.os, J.bare, J.base, J.hok, rv, q⟩
  | next =>
    obtain ⟨_, H', J, q⟩ := got
    exact ⟨V.non, H', J.os, J.bare, J.base, J.hok, rfl, q⟩
  | brk =>
    obtain ⟨_, _, _, no⟩ := got
    exact no.elim
  | cont =>
    obtain ⟨_, _, _, no⟩ := got
    exact no.elim
end
section
variable {X : Cx} {k : Nat} {f : Addr} {fd : FuncData} {ps : List Str} {sp : Sp} {x : Str} {p pos : Pos} {e : Expr} {es : List Expr} {t : TA}
/-- f(e, ..) of such a def -/
theorem pe_callG (F : FnG X.prog X.w X.K X.mg X.base k f fd ps sp) (guard : X.A.guards = some []) (room : Room k X.A) (hg : Gl X x) (hm : X.mg x = some (.ref f)) (hk : PySem.W.keepIn X.K (.ref f) = true) (hb : Binds X.K fd ps [])
    (ha : PA X (e :: es) t) (hdb : (x == ("__debug__" : Str)) = false := by decide) (he : starEach (e :: es) X.env = (false, eval e X.env) :: starEach es X.env := by rfl) (hpl : (backTo pos (starEach es X.env)).any (·.1) = false := by rfl) :
    PE X (.Call (.Name x p) (e :: es) [] pos) (tCall sp [] E0 t) := by
  constructor
  intro pins s σ H Q inv want
  refine wpAny_Call_Name_kw (ld_glob inv hg hm ?_ hdb)
  refine PySem.W.callWith_K (h₀ := X.base) inv.ok.mod.kin hk (thn (ha.run pos pins s σ H _ inv want) fun us s1 got => ?_) he hpl
  obtain ⟨vs, H1, inv1, rel, q⟩ := got
  rw [List.append_nil] at q
  have many : us.length = ps.length := by rw [← rel.length]; exact F.many _ _ _ _ q
  have bind := hb s1 us inv1.kIn (by rw [List.append_nil]; exact many)
  rw [List.append_nil] at bind
  refine ⟨inv1.kIn, wpAny_call (codeAny_mono (F.goes X.A X.stack s1 H1 us vs Q E0 guard room inv1.env0 bind rel q) fun r s' end_ => ?_)⟩
  cases r with
  | error _ => exact False.elim end_
  | ok flow =>
    cases flow with
    | ret _ => exact inv1.after end_
    | next => exact False.elim end_
    | brk => exact False.elim end_
    | cont => exact False.elim end_
end
/-! ### repr of data -/
section
variable {X : Cx}
/-- repr(v), v data of any depth: its text -/
def rRep (K : PySem.W.Frag) : List V → Hp → VK → Prop := fun xs H Q => ∃ (v : V) (d : PyData), xs = [v] ∧ Dp K H v d ∧ d.showable = true ∧ d.depth ≤ 60 ∧ d.shown.length ≤ sizeLine ∧ Q (.str d.shown) H
theorem Dp.noDict {K : PySem.W.Frag} {H : Hp} : ∀ (d : PyData) (v : V), Dp K H v d → d.hasDict = false
  | .none, _, _ => by simp only [PyData.hasDict]
  | .bool _, _, _ => by simp only [PyData.hasDict]
  | .int _, _, _ => by simp only [PyData.hasDict]
  | .str _, _, _ => by simp only [PyData.hasDict]
  | .dict _, _, h => by cases h
  | .list ds, _, h => by
    cases h with
    | lst _ ha =>
      simp only [PyData.hasDict]
      exact go ds _ ha
  | .tuple ds, _, h => by
    cases h with
    | tup _ ha =>
      simp only [PyData.hasDict]
      exact go ds _ ha
where go {K : PySem.W.Frag} {H : Hp} : ∀ (ds : List PyData) (vs : List V), DpAll K H vs ds → PyData.hasDictAll ds = false
  | [], _, _ => by simp only [PyData.hasDictAll]
  | d :: ds, _, h => by
    cases h with
    | cons h1 h2 => simp only [PyData.hasDictAll, Dp.noDict d _ h1, go ds _ h2, Bool.or_self]
theorem call_rep (guard : X.A.guards = some []) (room : X.A.units + 64 < cLine) : CallR X (.builtin "repr") (rRep X.K) := by
  intro pins s σ H xs us Q inv rel want
  obtain ⟨v, d, rfl, hd, hs, hn, hz, q⟩ := want
  cases rel with
  | cons r0 rr =>
  rename_i u us'
  cases rr
  obtain ⟨as, reads⟩ := Dp.reads inv d v u hd r0
  have dict := PyData.noDict_hsm (as := as) (Dp.noDict d v hd)
  cases hd with
  | non =>
    cases r0
    exact PySem.P.repr_of_none ⟨.str _, H, inv.tok _, ⟨_, rfl⟩, by simpa only [PyData.shown] using q⟩
  | bl b =>
    cases r0
    refine PySem.P.repr_of_bool ⟨.str _, H, inv.tok _, ⟨_, rfl⟩, by simpa only [PyData.shown] using q⟩
  | int i =>
    obtain ⟨t, rfl⟩ := r0
    exact PySem.P.repr_of_int (by simpa [PyData.showable] using hs) ⟨.str _, H, inv.tok _, ⟨_, rfl⟩, by simpa only [PyData.shown] using q⟩
  | str x =>
    obtain ⟨t, rfl⟩ := r0
    exact PySem.P.repr_of_str ⟨.str _, H, inv.tok _, ⟨_, rfl⟩, by simpa only [PyData.shown] using q⟩ (by simpa only [PyData.shown] using hz)
  | lst h1 h2 =>
    cases r0
    exact repr_of_reads' reads hs dict guard (by omega) (fun _ _ z => z) (fun h' u' tk keep => ⟨.str _, H, inv.kept keep, ⟨_, rfl⟩, q⟩) hz
  | tup h1 h2 =>
    cases r0
    exact repr_of_reads' reads hs dict guard (by omega) (fun _ _ z => z) (fun h' u' tk keep => ⟨.str _, H, inv.kept keep, ⟨_, rfl⟩, q⟩) hz
end
end LG
/-! ### the end: the law's promise, at the heap behind the top -/
namespace LG
open PySem PySem.W PySem.Spec PyProof.Rows L2
section
variable {P : Program} {w : World} {K : PySem.W.Frag} {mg mb : Str → Option Value} {k : Nat} {fa a : Addr} {fd : FuncData} {x : Str} {sp : Sp} {s : Shared} {vs : List Value} {ns : List Int}
/-- the call from an abstract heap that tracks at most the script -/
theorem end_from (inK : K.In s.heap) (mains : s.heap.Ns mainGlobals mg) (blts : s.heap.Ns builtinsNs mb) (boot : ∀ y : Str, y ≠ "__name__" → mb y = bootBuiltins y) (noLim : s.heap.NoLimit) (gens : s.gens = #[])
    (obj : s.heap.get? a = some { cls := .type "list", data := .seq vs.toArray }) (room : Room k callerA) (goesF : ∀ base : Heap, K.In base → base.Ns mainGlobals mg → FnG P w K mg base k fa fd [x] sp)
    (bind : ∀ (s : Shared) (u : Value), BindsTo s fd ⟨[u], []⟩ [(x, u)]) (H : Hp) (only : Only H) (held : HOk P w H s.heap) (alone : ∀ b, H b ≠ none → b = a) (away : H a ≠ none → K.lookup a = none)
    (want : sp [.ref a] H (fun v _ => v = .bl true) E0) :
    codeAny (model P w) callerA (.call (.ref fa) ⟨[.ref a], []⟩) (fun r s' => r = .ok (.ret (.bool true)) ∧ OldK s.heap s'.heap ∧ s'.os = s.os ∧ AllBare s'.gens) s := by
  have free : ∀ {b : Addr} {o : Obj}, s.heap.get? b = some o → (b = a → o ≠ { cls := .type "list", data := .seq vs.toArray }) → H b = none := fun {b o} e far => by
    cases q : H b with
    | none => rfl
    | some u =>
      have here : b = a := alone b (by rw [q]; exact nofun)
      refine absurd ?_ (far here)
      rw [here, obj] at e
      exact (Option.some.inj e).symm
  have space : ∀ {b : Addr} {m : Str → Option Value}, s.heap.Ns b m → (hidT s.heap H).Ns b m := fun {b m} ⟨o, es, ep, e, d, more⟩ =>
    ⟨o, es, ep, hidT_get e (free e fun _ same => by rw [same] at d; exact nomatch d), d, more⟩
  have baseK : K.In (hidT s.heap H) := fun b o e => hidT_get (inK b o e) (by
    cases q : H b with
    | none => rfl
    | some u =>
      have here : b = a := alone b (by rw [q]; exact nofun)
      have no := away (by rw [← here, q]; exact nofun)
      rw [here, no] at e
      exact nomatch e)
  have lim : (hidT s.heap H).NoLimit := by
    obtain ⟨mc, h1, h2⟩ := noLim
    exact ⟨mc, space h1, h2⟩
  have modu : Mod K mg (hidT s.heap H) := ⟨baseK, space mains, ⟨mb, space blts, boot⟩, lim⟩
  have e0 : Env0 P w K mg (hidT s.heap H) callerA [] s H := ⟨rfl, modu, fun _ _ e => of_hidT e, Nat.le_of_eq (hidT_size _ _), trivial, (fun _ hb => absurd (show _ ∈ ([] : List Addr) from hb) List.not_mem_nil), held, .of_eq gens⟩
  refine codeAny_mono ((goesF _ baseK (space mains)).goes callerA [] s H [.ref a] [.ref a] _ E0 rfl room e0 (bind s (.ref a)) (.cons rfl .nil) want) fun r s' got => ?_
  cases r with
  | error _ => exact False.elim got
  | ok flow =>
  cases flow with
  | next => exact False.elim got
  | brk => exact False.elim got
  | cont => exact False.elim got
  | ret u =>
    obtain ⟨v, H', sameOs, bare, un, held', rel, yes⟩ := got
    have yes' : v = .bl true := yes
    subst yes'
    obtain rfl : u = Value.bool true := rel
    refine ⟨rfl, OldK.of_keep fun b o e => ?_, sameOs, bare⟩
    rcases only b with free | ⟨ob, xs, fz⟩
    · exact un.keep b o e free (fun z => nomatch z) (fun z => nomatch z)
    · obtain ⟨e1, _⟩ := held b _ fz
      obtain ⟨e2, _⟩ := held' b _ (un.frzs b ob _ fz)
      rw [e2, ← e1, e]
/-- .. from the script as it lies -/
theorem end_call (inK : K.In s.heap) (mains : s.heap.Ns mainGlobals mg) (blts : s.heap.Ns builtinsNs mb) (boot : ∀ y : Str, y ≠ "__name__" → mb y = bootBuiltins y) (noLim : s.heap.NoLimit) (gens : s.gens = #[])
    (obj : s.heap.get? a = some { cls := .type "list", data := .seq vs.toArray }) (numbs : PyProof.Rows.IntsAre vs ns) (small : ns.length ≤ sizeLine) (room : Room k callerA)
    (goesF : ∀ base : Heap, K.In base → base.Ns mainGlobals mg → FnG P w K mg base k fa fd [x] sp) (bind : ∀ (s : Shared) (u : Value), BindsTo s fd ⟨[u], []⟩ [(x, u)])
    (want : ∀ H : Hp, Only H → SqL K H a (ns.map V.int) → sp [.ref a] H (fun v _ => v = .bl true) E0) :
    codeAny (model P w) callerA (.call (.ref fa) ⟨[.ref a], []⟩) (fun r s' => r = .ok (.ret (.bool true)) ∧ OldK s.heap s'.heap ∧ s'.os = s.os ∧ AllBare s'.gens) s := by
  have rel := vals_ints numbs
  cases hk : K.lookup a with
  | some o =>
    have e := inK a o hk
    rw [obj] at e
    obtain rfl := Option.some.inj e
    have only : Only fun _ => none := fun _ => Or.inl rfl
    have held : HOk P w (fun _ => none) s.heap := fun _ _ z => nomatch z
    refine end_from inK mains blts boot noLim gens obj room goesF bind (fun _ => none) only held (fun _ z => absurd rfl z) (fun z => absurd rfl z) (want _ only ?_)
    exact Or.inr ⟨_, vs.toArray, _, hk, rfl, rfl, rfl, by rw [List.size_toArray, numbs.length]; exact small, by simpa using rel⟩
  | none =>
    let one : Hp := upd (fun _ => none) a (.frz { cls := .type "list", data := .seq vs.toArray } (.lst (ns.map V.int)))
    have at_a : one a = some (.frz { cls := .type "list", data := .seq vs.toArray } (.lst (ns.map V.int))) := upd_same
    have off_a : ∀ b, b ≠ a → one b = none := fun b hb => upd_ne hb
    have only : Only one := fun b => by
      by_cases hb : b = a
      · subst hb
        exact Or.inr ⟨_, _, at_a⟩
      · exact Or.inl (off_a b hb)
    have held : HOk P w one s.heap := fun b u z => by
      by_cases hb : b = a
      · subst hb
        rw [at_a] at z
        obtain rfl := Option.some.inj z
        exact ⟨obj, by rw [List.length_map]; exact small, vs, _, rel, obj⟩
      · rw [off_a b hb] at z
        exact nomatch z
    exact end_from inK mains blts boot noLim gens obj room goesF bind one only held (fun b z => Classical.byContradiction fun hb => z (off_a b hb)) (fun _ => hk) (want _ only (.inl (.inr ⟨_, at_a⟩)))
end
/-- what is left of the statement behind the head -/
theorem walk_G {l : PySem.W.OpenLaw} {n k : Nat} {q : Program} {loose : List Str} {XP : (Str → Option Value) → Heap → Prop} {YP : World → Heap → Prop} {d : DefRec} {K : Params → PySem.W.Frag} {sp : PySem.W.Frag → Sp} {x : Str}
    (hn : l.most = some n) (small : n ≤ sizeLine) (plain : d.params.defaults = []) (room : Room k callerA) (hY : ∀ (w : World) (h : Heap), YP w h → (K w.params).In h)
    (F : ∀ (w : World) (mg : Str → Option Value) (fa : Addr) (h : Heap), (K w.params).In h → h.Ns mainGlobals mg → mg d.name = some (.ref fa) →
      ∃ fd : FuncData, (∀ (s : Shared) (u : Value), BindsTo s fd ⟨[u], []⟩ [(x, u)]) ∧ ∀ base : Heap, (K w.params).In base → base.Ns mainGlobals mg → FnG l.prog w (K w.params) mg base k fa fd [x] (sp (K w.params)))
    (want : ∀ (K : PySem.W.Frag) (H : Hp) (a : Addr) (ns : List Int), ns.length ≤ n → Only H → SqL K H a (ns.map V.int) → sp K [.ref a] H (fun v _ => v = .bl true) E0) :
    PySem.W.WalkO q loose XP YP l.row.toRowW d [] (fun f vs => PySem.call f vs) := by
  refine Att.attach_call hn plain fun w s0 s1 mg mb fa o pm cd doc a vs ns ground told ho hd hcd hmg obj numbs many gens => ?_
  have inK := hY w _ told
  obtain ⟨fd, bind, goesF⟩ := F w mg fa _ inK ground.T.g hmg
  exact end_call inK ground.T.g ground.T.b ground.T.builtins ground.T.nolimit gens obj numbs (Nat.le_trans many small) room goesF bind fun H only held => want (K w.params) H a ns many only held
end LG
/-! ### sizes of data, data of tuples, heaps -/
namespace LG
open PySem PySem.Spec PyProof.Rows L2
/-- data whose text is short: at most m parts, h deep -/
def Sized (m h : Nat) (d : PyData) : Prop := d.leavesShort 40 = true ∧ d.showable = true ∧ d.depth ≤ h ∧ d.bulk ≤ m
theorem Sized.more {m m' h h' : Nat} {d : PyData} (s : Sized m h d) (hm : m ≤ m') (hh : h ≤ h') : Sized m' h' d := ⟨s.1, s.2.1, Nat.le_trans s.2.2.1 hh, Nat.le_trans s.2.2.2 hm⟩
theorem sized_all {m h : Nat} : ∀ {ds : List PyData}, (∀ d ∈ ds, Sized m h d) → PyData.leavesShortAll 40 ds = true ∧ PyData.showableAll ds = true ∧ PyData.depthAll ds ≤ h ∧ PyData.bulkAll ds ≤ ds.length * (m + 1)
  | [], _ => ⟨by simp only [PyData.leavesShortAll], by simp only [PyData.showableAll], by simp only [PyData.depthAll]; omega, by simp only [PyData.bulkAll]; omega⟩
  | d :: ds, hd => by
    obtain ⟨a1, a2, a3, a4⟩ := hd d List.mem_cons_self
    obtain ⟨b1, b2, b3, b4⟩ := sized_all fun e he => hd e (List.mem_cons_of_mem _ he)
    refine ⟨by simp only [PyData.leavesShortAll, a1, b1, Bool.and_self], by simp only [PyData.showableAll, a2, b2, Bool.and_self], by simp only [PyData.depthAll]; omega, ?_⟩
    simp only [PyData.bulkAll, List.length_cons, Nat.add_mul, Nat.one_mul] at b4 ⊢
    omega
theorem sized_tup {m h : Nat} {ds : List PyData} (hd : ∀ d ∈ ds, Sized m h d) : Sized (ds.length * (m + 1)) (h + 1) (.tuple ds) := by
  obtain ⟨a1, a2, a3, a4⟩ := sized_all hd
  exact ⟨by simpa only [PyData.leavesShort] using a1, by simpa only [PyData.showable] using a2, by simp only [PyData.depth]; omega, by simpa only [PyData.bulk] using a4⟩
theorem sized_lst {m h : Nat} {ds : List PyData} (hd : ∀ d ∈ ds, Sized m h d) : Sized (ds.length * (m + 1)) (h + 1) (.list ds) := by
  obtain ⟨a1, a2, a3, a4⟩ := sized_all hd
  exact ⟨by simpa only [PyData.leavesShort] using a1, by simpa only [PyData.showable] using a2, by simp only [PyData.depth]; omega, by simpa only [PyData.bulk] using a4⟩
theorem sized_non : Sized 0 0 .none := ⟨by simp only [PyData.leavesShort], by simp only [PyData.showable], by simp only [PyData.depth]; omega, by simp only [PyData.bulk]; omega⟩
theorem sized_bl (b : Bool) : Sized 0 0 (.bool b) := ⟨by simp only [PyData.leavesShort], by simp only [PyData.showable], by simp only [PyData.depth]; omega, by simp only [PyData.bulk]; omega⟩
/-- an int of few digits -/
theorem sized_int {i : Int} (h : i.natAbs < 10 ^ 39) : Sized 0 0 (.int i) := by
  have short : (PyData.shown (.int i)).length ≤ 40 := by
    simp only [PyData.shown]
    show (Str.ofString (toString i)).length ≤ 40
    rw [PySem.ofString_length]
    exact int_text_length_le10 (by decide) h
  refine ⟨by simpa only [PyData.leavesShort, decide_eq_true_eq] using short, ?_, by simp only [PyData.depth]; omega, by simp only [PyData.bulk]; omega⟩
  simp only [PyData.showable, decide_eq_true_eq]
  by_cases z : i.natAbs = 0
  · rw [z]; decide
  · exact Nat.lt_of_lt_of_le ((Nat.log2_lt z).mpr (Nat.lt_of_lt_of_le h (by decide : 10 ^ 39 ≤ 2 ^ 130))) (by decide)
/-- what repr asks -/
theorem Sized.rep {m h : Nat} {d : PyData} (s : Sized m h d) (hm : m ≤ 390000) (hh : h ≤ 60) : d.showable = true ∧ d.depth ≤ 60 ∧ d.shown.length ≤ sizeLine := by
  refine ⟨s.2.1, Nat.le_trans s.2.2.1 hh, ?_⟩
  have z := PyData.shown_le_bulk 40 (by decide) d s.1
  have z2 := s.2.2.2
  rw [sizeLine_eq]
  omega
/-- tuples stay -/
def TupsStay (H H' : Hp) : Prop := ∀ b o, (∃ xs, o = .tup xs) ∨ (∃ ob xs, o = .frz ob (.tup xs)) → H b = some o → H' b = some o
theorem TupsStay.trans {H H1 H2 : Hp} (a : TupsStay H H1) (b : TupsStay H1 H2) : TupsStay H H2 := fun c o h e => b c o h (a c o h e)
theorem TupsStay.refl (H : Hp) : TupsStay H H := fun _ _ _ e => e
theorem _root_.L2.Same.tups {H H' : Hp} (s : Same H H') : TupsStay H H' := fun b o _ e => s b o e
theorem TupsStay.seq {K : PySem.W.Frag} {H H' : Hp} {a : Addr} {xs : List V} (t : TupsStay H H') (h : SqT K H a xs) : SqT K H' a xs := by
  rcases h with (h | ⟨o, h⟩) | h
  · exact .inl (.inl (t _ _ (.inl ⟨_, rfl⟩) h))
  · exact .inl (.inr ⟨o, t _ _ (.inr ⟨_, _, rfl⟩) h⟩)
  · exact .inr h
theorem _root_.L2.Same.seqT {K : PySem.W.Frag} {H H' : Hp} {a : Addr} {xs : List V} (s : Same H H') (h : SqT K H a xs) : SqT K H' a xs := (Same.tups s).seq h
theorem tups_lst {H : Hp} {p : Addr} {xs ys : List V} (h : H p = some (.lst xs)) : TupsStay H (upd H p (.lst ys)) := fun b o hk e => by
  rw [upd_ne (ne_of e h ?_)]
  · exact e
  · rcases hk with ⟨_, rfl⟩ | ⟨_, _, rfl⟩ <;> exact nofun
theorem same_new {H : Hp} {p : Addr} (h : H p = none) (o : HO) : Same H (upd H p o) := fun b u e => by
  rw [upd_ne (ne_of_none e h)]
  exact e
/-- a list that was made since changes -/
theorem same_own {H H' : Hp} {p : Addr} (s : Same H H') (h : H p = none) (o : HO) : Same H (upd H' p o) := fun b u e => by
  rw [upd_ne (ne_of_none e h)]
  exact s b u e
mutual
/-- data without lists -/
inductive Dt (K : PySem.W.Frag) (H : Hp) : V → PyData → Prop
  | non : Dt K H .non .none
  | bl (b : Bool) : Dt K H (.bl b) (.bool b)
  | int (i : Int) : Dt K H (.int i) (.int i)
  | str (x : Str) : Dt K H (.str x) (.str x)
  | tup {a : Addr} {xs : List V} {ds : List PyData} : SqT K H a xs → DtAll K H xs ds → Dt K H (.ref a) (.tuple ds)
inductive DtAll (K : PySem.W.Frag) (H : Hp) : List V → List PyData → Prop
  | nil : DtAll K H [] []
  | cons {v : V} {vs : List V} {d : PyData} {ds : List PyData} : Dt K H v d → DtAll K H vs ds → DtAll K H (v :: vs) (d :: ds)
end
section
variable {K : PySem.W.Frag} {H H' : Hp}
mutual
theorem Dt.dp : ∀ {v : V} {d : PyData}, Dt K H v d → Dp K H v d
  | _, _, .non => .non
  | _, _, .bl b => .bl b
  | _, _, .int i => .int i
  | _, _, .str x => .str x
  | _, _, .tup h a => .tup h a.dp
theorem DtAll.dp : ∀ {vs : List V} {ds : List PyData}, DtAll K H vs ds → DpAll K H vs ds
  | _, _, .nil => .nil
  | _, _, .cons h a => .cons h.dp a.dp
end
mutual
theorem Dt.stay (t : TupsStay H H') : ∀ {v : V} {d : PyData}, Dt K H v d → Dt K H' v d
  | _, _, .non => .non
  | _, _, .bl b => .bl b
  | _, _, .int i => .int i
  | _, _, .str x => .str x
  | _, _, .tup h a => .tup (t.seq h) (a.stay t)
theorem DtAll.stay (t : TupsStay H H') : ∀ {vs : List V} {ds : List PyData}, DtAll K H vs ds → DtAll K H' vs ds
  | _, _, .nil => .nil
  | _, _, .cons h a => .cons (h.stay t) (a.stay t)
end
theorem DtAll.len : ∀ {vs : List V} {ds : List PyData}, DtAll K H vs ds → vs.length = ds.length
  | _, _, .nil => rfl
  | _, _, .cons _ a => by rw [List.length_cons, List.length_cons, a.len]
theorem DtAll.at : ∀ {vs : List V} {ds : List PyData} {i : Nat} {d : PyData}, DtAll K H vs ds → ds[i]? = some d → ∃ v, vs[i]? = some v ∧ Dt K H v d
  | _, _, _, _, .nil, e => by simp at e
  | _, _, 0, _, .cons h _, e => by simp at e; subst e; exact ⟨_, rfl, h⟩
  | _, _, i + 1, d, .cons _ a, e => by simpa using a.at (i := i) (by simpa using e)
theorem DtAll.of : ∀ {vs : List V} {ds : List PyData} {i : Nat} {v : V}, DtAll K H vs ds → vs[i]? = some v → ∃ d, ds[i]? = some d ∧ Dt K H v d
  | _, _, _, _, .nil, e => by simp at e
  | _, _, 0, _, .cons h _, e => by simp at e; subst e; exact ⟨_, rfl, h⟩
  | _, _, i + 1, d, .cons _ a, e => by simpa using a.of (i := i) (by simpa using e)
theorem DtAll.app : ∀ {vs ws : List V} {ds es : List PyData}, DtAll K H vs ds → DtAll K H ws es → DtAll K H (vs ++ ws) (ds ++ es)
  | _, _, _, _, .nil, b => b
  | _, _, _, _, .cons h a, b => .cons h (a.app b)
theorem DtAll.take : ∀ {vs : List V} {ds : List PyData} (n : Nat), DtAll K H vs ds → DtAll K H (vs.take n) (ds.take n)
  | _, _, 0, _ => .nil
  | _, _, _ + 1, .nil => .nil
  | _, _, n + 1, .cons h a => .cons h (a.take n)
theorem DtAll.drop : ∀ {vs : List V} {ds : List PyData} (n : Nat), DtAll K H vs ds → DtAll K H (vs.drop n) (ds.drop n)
  | _, _, 0, a => a
  | _, _, _ + 1, .nil => .nil
  | _, _, n + 1, .cons _ a => a.drop n
theorem DtAll.ints : ∀ (ns : List Int), DtAll K H (ns.map V.int) (ns.map PyData.int)
  | [] => .nil
  | n :: ns => .cons (.int n) (DtAll.ints ns)
theorem item_of {ns : List Int} {i : Nat} {y : V} (hi : (ns.map V.int)[i]? = some y) : ∃ z, ns[i]? = some z ∧ y = V.int z := by
  rw [List.getElem?_map] at hi
  cases e : ns[i]? with
  | none => rw [e] at hi; cases hi
  | some z => rw [e] at hi; exact ⟨z, rfl, (Option.some.inj hi).symm⟩
theorem take_more {α : Type} : ∀ {l : List α} {i : Nat} {x : α}, l[i]? = some x → l.take (i + 1) = l.take i ++ [x]
  | [], i, x, h => by simp at h
  | a :: l, 0, x, h => by simp at h; simp [h]
  | a :: l, i + 1, x, h => by
    have ih := take_more (l := l) (i := i) (x := x) (by simpa using h)
    simp [ih]
end
end LG
/-! ### a def of the text with its promise, by its name -/
namespace LG
open PySem PySem.Spec PyProof.Rows L2
/-- the def of this name, the place hidden -/
structure Has (P : Program) (w : World) (K : PySem.W.Frag) (mg : Str → Option Value) (base : Heap) (CX : CXT) (k : Nat) (x : Str) (ps : List Str) (sp : Sp) : Prop where
  ex : ∃ (f : Addr) (fd : FuncData), FnOk P w K mg base CX k f fd ps sp ∧ mg x = some (.ref f) ∧ PySem.W.keepIn K (.ref f) = true ∧ Binds K fd ps []
structure HasG (P : Program) (w : World) (K : PySem.W.Frag) (mg : Str → Option Value) (base : Heap) (k : Nat) (x : Str) (ps : List Str) (sp : Sp) : Prop where
  ex : ∃ (f : Addr) (fd : FuncData), FnG P w K mg base k f fd ps sp ∧ mg x = some (.ref f) ∧ PySem.W.keepIn K (.ref f) = true ∧ Binds K fd ps []
/-- the def as the top has left it -/
structure Def (K : PySem.W.Frag) (mg : Str → Option Value) (x : Str) (st : Stmt) (ps : List Str) : Prop where
  ex : ∃ (f : Addr) (fd : FuncData), Fun K x x st f fd ∧ mg x = some (.ref f) ∧ Binds K fd ps []
section
variable {P : Program} {w : World} {K : PySem.W.Frag} {mg : Str → Option Value} {base : Heap} {CX : CXT} {k : Nat} {x : Str} {ps : List Str} {sp : Sp} {st : Stmt}
theorem Def.has (d : Def K mg x st ps) (h : ∀ (f : Addr) (fd : FuncData), Fun K x x st f fd → FnOk P w K mg base CX k f fd ps sp) : Has P w K mg base CX k x ps sp := by
  obtain ⟨f, fd, F, m, b⟩ := d.ex
  exact ⟨f, fd, h f fd F, m, F.kp, b⟩
theorem Def.hasG (d : Def K mg x st ps) (h : ∀ (f : Addr) (fd : FuncData), Fun K x x st f fd → FnG P w K mg base k f fd ps sp) : HasG P w K mg base k x ps sp := by
  obtain ⟨f, fd, F, m, b⟩ := d.ex
  exact ⟨f, fd, h f fd F, m, F.kp, b⟩
theorem Has.more {j : Nat} (h : Has P w K mg base CX k x ps sp) (hj : k ≤ j) : Has P w K mg base CX j x ps sp := by
  obtain ⟨f, fd, F, r⟩ := h.ex
  exact ⟨f, fd, F.mono hj, r⟩
theorem Has.imp {sp' : Sp} (h : Has P w K mg base CX k x ps sp) (i : ∀ vs H Q E, sp' vs H Q E → sp vs H Q E) : Has P w K mg base CX k x ps sp' := by
  obtain ⟨f, fd, F, r⟩ := h.ex
  exact ⟨f, fd, F.imp i, r⟩
end
section
variable {X : Cx} {k j : Nat} {ps : List Str} {sp : Sp} {x : Str} {p pos : Pos} {e : Expr} {es : List Expr} {t : TA}
/-- its call: nothing is raised -/
theorem pc (h : Has X.prog X.w X.K X.mg X.base CX0 k x ps sp) (hr : Room j X.A) (ha : PA X (e :: es) t) (hg : Gl X x := by rfl) (hj : k ≤ j := by first | decide | omega) (hdb : (x == ("__debug__" : Str)) = false := by decide)
    (he : starEach (e :: es) X.env = (false, eval e X.env) :: starEach es X.env := by rfl) (hpl : (backTo pos (starEach es X.env)).any (·.1) = false := by rfl) : PE X (.Call (.Name x p) (e :: es) [] pos) (tCall sp [] E0 t) := by
  obtain ⟨f, fd, F, m, kp, b⟩ := h.ex
  exact pe_call F (hr.mono hj) hg m kp b .nil pass0 ha hdb he hpl
theorem pcX (h : Has X.prog X.w X.K X.mg X.base (L2.CX X.prog X.w) k x ps sp) (hr : Room j X.A) (ha : PA X (e :: es) t) (hg : Gl X x := by rfl) (hj : k ≤ j := by first | decide | omega) (hdb : (x == ("__debug__" : Str)) = false := by decide)
    (he : starEach (e :: es) X.env = (false, eval e X.env) :: starEach es X.env := by rfl) (hpl : (backTo pos (starEach es X.env)).any (·.1) = false := by rfl) : PE X (.Call (.Name x p) (e :: es) [] pos) (tCall sp [] E0 t) := by
  obtain ⟨f, fd, F, m, kp, b⟩ := h.ex
  exact pe_call F (hr.mono hj) hg m kp b .nil passL ha hdb he hpl
theorem pcG (h : HasG X.prog X.w X.K X.mg X.base k x ps sp) (guard : X.A.guards = some []) (hr : Room j X.A) (ha : PA X (e :: es) t) (hg : Gl X x := by rfl) (hj : k ≤ j := by first | decide | omega) (hdb : (x == ("__debug__" : Str)) = false := by decide)
    (he : starEach (e :: es) X.env = (false, eval e X.env) :: starEach es X.env := by rfl) (hpl : (backTo pos (starEach es X.env)).any (·.1) = false := by rfl) : PE X (.Call (.Name x p) (e :: es) [] pos) (tCall sp [] E0 t) := by
  obtain ⟨f, fd, F, m, kp, b⟩ := h.ex
  exact pe_callG F guard (hr.mono hj) hg m kp b ha hdb he hpl
/-- its call: what it raises leaves this def too -/
theorem pcE {E : XK} (h : Has X.prog X.w X.K X.mg X.base (L2.CX X.prog X.w) k x ps sp) (hr : Room j X.A) (tk : Takes X (fun cls d _ H => E cls d H)) (ha : PA X (e :: es) t) (hg : Gl X x := by rfl) (hj : k ≤ j := by first | decide | omega) (hdb : (x == ("__debug__" : Str)) = false := by decide)
    (he : starEach (e :: es) X.env = (false, eval e X.env) :: starEach es X.env := by rfl) (hpl : (backTo pos (starEach es X.env)).any (·.1) = false := by rfl) : PE X (.Call (.Name x p) (e :: es) [] pos) (tCall sp [] E t) := by
  obtain ⟨f, fd, F, m, kp, b⟩ := h.ex
  exact pe_call F (hr.mono hj) hg m kp b .nil (passes_call tk fun _ _ _ _ z => z) ha hdb he hpl
/-- its call within a try's body: what it raises is wished for -/
theorem pcS {W : WX} (h : Has X.prog X.w X.K X.mg X.base (L2.CX X.prog X.w) k x ps sp) (hr : Room j X.A) (tk : Takes X W) (ha : PA X (e :: es) t) (hg : Gl X x := by rfl) (hj : k ≤ j := by first | decide | omega) (hdb : (x == ("__debug__" : Str)) = false := by decide)
    (he : starEach (e :: es) X.env = (false, eval e X.env) :: starEach es X.env := by rfl) (hpl : (backTo pos (starEach es X.env)).any (·.1) = false := by rfl) : PE X (.Call (.Name x p) (e :: es) [] pos) (tCallS sp (WE W) t) := by
  obtain ⟨f, fd, F, m, kp, b⟩ := h.ex
  exact pe_callS F (hr.mono hj) hg m kp b (fun σ => passAt tk σ) ha hdb he hpl
end
/-! ### places in lists of ints -/
theorem ix_of {n : Nat} {i : Int} (h0 : 0 ≤ i) (h1 : i < n) : ixN n i = some i.toNat := by
  unfold ixN
  rw [if_pos h0, if_pos h1]
theorem at_int {ns : List Int} {i : Int} (h0 : 0 ≤ i) (h1 : i < ns.length) : ∃ z, ns[i.toNat]? = some z ∧ z ∈ ns ∧ atI (ns.map V.int) i = some (.int z) := by
  have lt : i.toNat < ns.length := by omega
  refine ⟨ns[i.toNat], by simp, List.getElem_mem _, ?_⟩
  refine at_of (j := i.toNat) (by omega) ?_
  rw [List.getElem?_map]
  simp
theorem dec_t {p : Prop} [Decidable p] (h : decide p = true) : p := of_decide_eq_true h
theorem dec_f {p : Prop} [Decidable p] (h : ¬ decide p = true) : ¬ p := fun z => h (decide_eq_true z)
end LG
namespace LG
open PySem PySem.Spec PyProof.Rows L2
section
variable {X : Cx}
/-- == and != of ints -/
theorem op_eqi : OpR X (compareOp .Eq) (rI0 fun i j => .bl (decide (i = j))) := by
  intro pins s σ H x y v u Q inv rx ry want
  obtain ⟨i, j, rfl, rfl, q⟩ := want
  refine op_eq pins s σ H _ _ v u Q inv rx ry ⟨rfl, ?_⟩
  rw [show decide (V.int i = V.int j) = decide (i = j) from decide_eq_decide.mpr ⟨fun z => V.int.inj z, fun z => congrArg V.int z⟩]
  exact q
theorem op_nei : OpR X (compareOp .NotEq) (rI0 fun i j => .bl (!decide (i = j))) := by
  intro pins s σ H x y v u Q inv rx ry want
  obtain ⟨i, j, rfl, rfl, q⟩ := want
  refine op_ne pins s σ H _ _ v u Q inv rx ry ⟨rfl, ?_⟩
  rw [show decide (V.int i = V.int j) = decide (i = j) from decide_eq_decide.mpr ⟨fun z => V.int.inj z, fun z => congrArg V.int z⟩]
  exact q
/-- == and != of texts -/
theorem op_eqs : OpR X (compareOp .Eq) (fun x y H Q => ∃ a b, x = .str a ∧ y = .str b ∧ Q (.bl (decide (a = b))) H) := by
  intro pins s σ H x y v u Q inv rx ry want
  obtain ⟨i, j, rfl, rfl, q⟩ := want
  refine op_eq pins s σ H _ _ v u Q inv rx ry ⟨rfl, ?_⟩
  rw [show decide (V.str i = V.str j) = decide (i = j) from decide_eq_decide.mpr ⟨fun z => V.str.inj z, fun z => congrArg V.str z⟩]
  exact q
theorem op_nes : OpR X (compareOp .NotEq) (fun x y H Q => ∃ a b, x = .str a ∧ y = .str b ∧ Q (.bl (!decide (a = b))) H) := by
  intro pins s σ H x y v u Q inv rx ry want
  obtain ⟨i, j, rfl, rfl, q⟩ := want
  refine op_ne pins s σ H _ _ v u Q inv rx ry ⟨rfl, ?_⟩
  rw [show decide (V.str i = V.str j) = decide (i = j) from decide_eq_decide.mpr ⟨fun z => V.str.inj z, fun z => congrArg V.str z⟩]
  exact q
end
/-! ### parts of tuples -/
theorem cut_last (xs : List V) (v : V) : cutV (xs ++ [v]) none (some (-1)) = xs := by
  unfold cutV HT.sIx
  simp only [List.length_append, List.length_singleton]
  rw [if_pos (by decide)]
  rw [List.drop_zero, show ((-1 + ((xs.length + 1 : Nat) : Int)).toNat - 0) = xs.length from by omega]
  simp
theorem cut_last_whole (xs : List V) (v : V) : ¬ (HT.sIx (xs ++ [v]).length 0 none = 0 ∧ HT.sIx (xs ++ [v]).length (xs ++ [v]).length (some (-1)) = (xs ++ [v]).length) := by
  unfold HT.sIx
  simp only [List.length_append, List.length_singleton]
  rw [if_pos (by decide)]
  omega
theorem cut_to (xs : List V) (n : Nat) : cutV xs none (some (n : Int)) = xs.take n := by
  unfold cutV
  rw [HT.sIx_none, HT.sIx_nat, List.drop_zero, Nat.sub_zero]
  rcases Nat.le_total n xs.length with h | h
  · rw [Nat.min_eq_left h]
  · rw [Nat.min_eq_right h, List.take_of_length_le (Nat.le_refl _), List.take_of_length_le h]
theorem cut_from (xs : List V) (n : Nat) : cutV xs (some (n : Int)) none = xs.drop n := by
  unfold cutV
  rw [HT.sIx_none, HT.sIx_nat]
  rcases Nat.le_total n xs.length with h | h
  · rw [Nat.min_eq_left h, List.take_of_length_le (by rw [List.length_drop]; exact Nat.le_refl _)]
  · rw [Nat.min_eq_right h, List.drop_of_length_le (Nat.le_refl _), List.drop_of_length_le h, List.take_nil]
/-- a slice of a tuple: the tuple itself, or a new one, of these items -/
def rCut (K : PySem.W.Frag) : V → Option Int → Option Int → Hp → VK → Prop := fun x lo hi H Q => ∃ a xs, x = .ref a ∧ SqT K H a xs ∧
  ∀ p H', Same H H' → SqT K H' p (cutV xs lo hi) → Q (.ref p) H'
theorem sl_cut {X : Cx} : SlR X (rCut X.K) := by
  intro pins s σ H x v vl vu lo hi sl Q inv rx hs pl pu want
  obtain ⟨a, xs, rfl, hx, q⟩ := want
  refine sl_tupA pins s σ H _ v vl vu lo hi sl Q inv rx hs pl pu ⟨a, xs, rfl, hx, fun whole => q a H (Same.refl H) ?_, fun _ p hp => q p _ (same_new hp _) (SqT.of upd_same)⟩
  have e : cutV xs lo hi = xs := by
    unfold cutV
    rw [whole.1, whole.2, List.drop_zero, Nat.sub_zero, List.take_of_length_le (Nat.le_refl _)]
  rw [e]
  exact hx
/-- t + u: one of the two, or a new tuple, of these items -/
def rPlus (K : PySem.W.Frag) : R2 := fun x y H Q => ∃ a b xs ys, x = .ref a ∧ y = .ref b ∧ SqT K H a xs ∧ SqT K H b ys ∧ xs.length + ys.length ≤ sizeLine ∧
  ∀ p H', Same H H' → SqT K H' p (xs ++ ys) → Q (.ref p) H'
theorem op_plus {X : Cx} : OpR X (binaryOp .Add) (rPlus X.K) := by
  intro pins s σ H x y v u Q inv rx ry want
  obtain ⟨a, b, xs, ys, rfl, rfl, ha, hb, hz, q⟩ := want
  refine op_catA pins s σ H _ _ v u Q inv rx ry ⟨a, b, xs, ys, rfl, rfl, ha, hb, hz, fun e => q b H (Same.refl H) ?_, fun _ e => q a H (Same.refl H) ?_, fun _ _ p hp => q p _ (same_new hp _) (SqT.of upd_same)⟩
  · rw [e]
    exact hb
  · rw [e, List.append_nil]
    exact ha
theorem small16 {n : Nat} (h : n ≤ 100000) : n ≤ sizeLine := Nat.le_trans h (by decide)
end LG
/-! ### error classes of the text -/
namespace LG
open PySem PySem.Spec PyProof.Rows L2
/-- the class of this name over ValueError -/
structure Err (K : PySem.W.Frag) (mg : Str → Option Value) (x : Str) (C : Addr) : Prop where
  xi : PySem.W.excIn K C [.type "ValueError", .type "Exception", .type "BaseException", .type "object"] "ValueError.__new__" = true
  g : mg x = some (.ref C)
  k : PySem.W.keepIn K (.ref C) = true
  b : PySem.W.subIn K (.ref C) (.type "BaseException") = some true
  t : PySem.W.typeIn K (.ref C) = some (.type "type")
/-- what a clause for the class at D makes of an error of the class at C -/
theorem exm_of2 {K : PySem.W.Frag} {C D : Addr} {r : Bool} (h1 : PySem.W.subIn K (.ref D) (.type "BaseException") = some true) (h2 : PySem.W.isClsIn K D = true) (h3 : PySem.W.typeIn K (.ref D) = some (.type "type")) (h4 : PySem.W.subIn K (.ref C) (.ref D) = some r) :
    PySem.W.exmOne K (.ref C) (.ref D) = some r := by
  show (if (PySem.W.subIn K (.ref D) (.type "BaseException") == some true) = true then (if (PySem.W.isClsIn K D && PySem.W.typeIn K (.ref D) == some (.type "type")) = true then PySem.W.subIn K (.ref C) (.ref D) else none) else none) = some r
  rw [h1, h2, h3, h4]
  rfl
end LG
/-! ### the hand from which the law takes its draws -/
namespace LG
open PySem PySem.Spec PyProof.Rows L2
/-- hand at h: the draws at d, how many were taken -/
def Hand (H : Hp) (h d : Addr) (ds : List Int) (n : Nat) : Prop := H h = some (.lst [.ref d, .int n]) ∧ H d = some (.lst (ds.map V.int))
section
variable {H H' : Hp} {h d : Addr} {ds : List Int} {n : Nat}
theorem Hand.ne (x : Hand H h d ds n) : d ≠ h := by
  rintro rfl
  have e := x.1.symm.trans x.2
  cases ds with
  | nil => cases e
  | cons z ds => cases e
theorem Hand.next (x : Hand H h d ds n) : Hand (upd H h (.lst [.ref d, .int ((n + 1 : Nat) : Int)])) h d ds (n + 1) := ⟨upd_same, by rw [upd_ne x.ne]; exact x.2⟩
theorem Hand.same (x : Hand H h d ds n) (s : Same H H') : Hand H' h d ds n := ⟨s _ _ x.1, s _ _ x.2⟩
theorem Hand.tups (x : Hand H h d ds n) : TupsStay H (upd H h (.lst [.ref d, .int ((n + 1 : Nat) : Int)])) := tups_lst x.1
/-- another list stays -/
theorem Hand.keep {a : Addr} {ns : List Int} (x : Hand H h d ds n) (e : H a = some (.lst (ns.map V.int))) : (upd H h (.lst [.ref d, .int ((n + 1 : Nat) : Int)])) a = some (.lst (ns.map V.int)) := by
  rw [upd_ne]
  · exact e
  rintro rfl
  have q := x.1.symm.trans e
  cases ns with
  | nil => cases q
  | cons z ns => cases q
end
end LG
/-! ### data of any kind, outside the places that may change -/
namespace LG
open PySem PySem.Spec PyProof.Rows L2
/-- what lies outside M stays, and all tuples -/
structure Go (M : Addr → Prop) (H H' : Hp) : Prop where
  out : ∀ b o, ¬ M b → H b = some o → H' b = some o
  tups : TupsStay H H'
section
variable {M : Addr → Prop} {H H1 H' : Hp} {K : PySem.W.Frag}
theorem Go.refl (H : Hp) : Go M H H := ⟨fun _ _ _ e => e, TupsStay.refl H⟩
theorem Go.trans (a : Go M H H1) (b : Go M H1 H') : Go M H H' := ⟨fun c o m e => b.out c o m (a.out c o m e), a.tups.trans b.tups⟩
theorem _root_.L2.Same.go (s : Same H H') : Go M H H' := ⟨fun b o _ e => s b o e, s.tups⟩
theorem Go.put {a : Addr} {xs ys : List V} (m : M a) (h : H a = some (.lst xs)) : Go M H (upd H a (.lst ys)) := ⟨fun b u n e => by
  rw [upd_ne (fun z => n (by rw [z]; exact m))]
  exact e, tups_lst h⟩
theorem Go.new {p : Addr} (h : H p = none) (o : HO) : Go M H (L2.upd H p o) := L2.Same.go (same_new h o)
theorem Go.seqL {a : Addr} {xs : List V} (s : Go M H H') (m : ¬ M a) (h : SqL K H a xs) : SqL K H' a xs := by
  rcases h with (h | ⟨o, h⟩) | h
  · exact .inl (.inl (s.out _ _ m h))
  · exact .inl (.inr ⟨o, s.out _ _ m h⟩)
  · exact .inr h
theorem Go.seqT {a : Addr} {xs : List V} (s : Go M H H') (h : SqT K H a xs) : SqT K H' a xs := s.tups.seq h
end
mutual
inductive Dv (M : Addr → Prop) (K : PySem.W.Frag) (H : Hp) : V → PyData → Prop
  | non : Dv M K H .non .none
  | bl (b : Bool) : Dv M K H (.bl b) (.bool b)
  | int (i : Int) : Dv M K H (.int i) (.int i)
  | str (x : Str) : Dv M K H (.str x) (.str x)
  | lst {a : Addr} {xs : List V} {ds : List PyData} : ¬ M a → SqL K H a xs → DvAll M K H xs ds → Dv M K H (.ref a) (.list ds)
  | tup {a : Addr} {xs : List V} {ds : List PyData} : SqT K H a xs → DvAll M K H xs ds → Dv M K H (.ref a) (.tuple ds)
inductive DvAll (M : Addr → Prop) (K : PySem.W.Frag) (H : Hp) : List V → List PyData → Prop
  | nil : DvAll M K H [] []
  | cons {v : V} {vs : List V} {d : PyData} {ds : List PyData} : Dv M K H v d → DvAll M K H vs ds → DvAll M K H (v :: vs) (d :: ds)
end
section
variable {M M' : Addr → Prop} {K : PySem.W.Frag} {H H' : Hp}
mutual
theorem Dv.dp : ∀ {v : V} {d : PyData}, Dv M K H v d → Dp K H v d
  | _, _, .non => .non
  | _, _, .bl b => .bl b
  | _, _, .int i => .int i
  | _, _, .str x => .str x
  | _, _, .lst _ h a => .lst h a.dp
  | _, _, .tup h a => .tup h a.dp
theorem DvAll.dp : ∀ {vs : List V} {ds : List PyData}, DvAll M K H vs ds → DpAll K H vs ds
  | _, _, .nil => .nil
  | _, _, .cons h a => .cons h.dp a.dp
end
mutual
theorem Dv.stay (t : Go M H H') : ∀ {v : V} {d : PyData}, Dv M K H v d → Dv M K H' v d
  | _, _, .non => .non
  | _, _, .bl b => .bl b
  | _, _, .int i => .int i
  | _, _, .str x => .str x
  | _, _, .lst m h a => .lst m (t.seqL m h) (a.stay t)
  | _, _, .tup h a => .tup (t.seqT h) (a.stay t)
theorem DvAll.stay (t : Go M H H') : ∀ {vs : List V} {ds : List PyData}, DvAll M K H vs ds → DvAll M K H' vs ds
  | _, _, .nil => .nil
  | _, _, .cons h a => .cons (h.stay t) (a.stay t)
end
theorem DvAll.len : ∀ {vs : List V} {ds : List PyData}, DvAll M K H vs ds → vs.length = ds.length
  | _, _, .nil => rfl
  | _, _, .cons _ a => by rw [List.length_cons, List.length_cons, a.len]
theorem DvAll.at : ∀ {vs : List V} {ds : List PyData} {i : Nat} {d : PyData}, DvAll M K H vs ds → ds[i]? = some d → ∃ v, vs[i]? = some v ∧ Dv M K H v d
  | _, _, _, _, .nil, e => by simp at e
  | _, _, 0, _, .cons h _, e => by simp at e; subst e; exact ⟨_, rfl, h⟩
  | _, _, i + 1, d, .cons _ a, e => by simpa using a.at (i := i) (by simpa using e)
theorem DvAll.of : ∀ {vs : List V} {ds : List PyData} {i : Nat} {v : V}, DvAll M K H vs ds → vs[i]? = some v → ∃ d, ds[i]? = some d ∧ Dv M K H v d
  | _, _, _, _, .nil, e => by simp at e
  | _, _, 0, _, .cons h _, e => by simp at e; subst e; exact ⟨_, rfl, h⟩
  | _, _, i + 1, d, .cons _ a, e => by simpa using a.of (i := i) (by simpa using e)
theorem DvAll.app : ∀ {vs ws : List V} {ds es : List PyData}, DvAll M K H vs ds → DvAll M K H ws es → DvAll M K H (vs ++ ws) (ds ++ es)
  | _, _, _, _, .nil, b => b
  | _, _, _, _, .cons h a, b => .cons h (a.app b)
theorem DvAll.take : ∀ {vs : List V} {ds : List PyData} (n : Nat), DvAll M K H vs ds → DvAll M K H (vs.take n) (ds.take n)
  | _, _, 0, _ => .nil
  | _, _, _ + 1, .nil => .nil
  | _, _, n + 1, .cons h a => .cons h (a.take n)
theorem DvAll.drop : ∀ {vs : List V} {ds : List PyData} (n : Nat), DvAll M K H vs ds → DvAll M K H (vs.drop n) (ds.drop n)
  | _, _, 0, a => a
  | _, _, _ + 1, .nil => .nil
  | _, _, n + 1, .cons _ a => a.drop n
theorem DvAll.ints : ∀ (ns : List Int), DvAll M K H (ns.map V.int) (ns.map PyData.int)
  | [] => .nil
  | n :: ns => .cons (.int n) (DvAll.ints ns)
/-- the built-in type of data -/
def tyD : PyData → String
  | .none => "NoneType"
  | .bool _ => "bool"
  | .int _ => "int"
  | .str _ => "str"
  | .list _ => "list"
  | .tuple _ => "tuple"
  | .dict _ => "dict"
theorem tyx_lst {a : Addr} {xs : List V} (h : SqL K H a xs) : TyX K H (.ref a) (.type "list") := by
  rcases h with (h | ⟨o, h⟩) | ⟨o, its, n, hk, hc, _⟩
  · exact .base (.lst h)
  · exact .base (.frz h)
  · exact .kList hk hc
theorem tyx_tup {a : Addr} {xs : List V} (h : SqT K H a xs) : TyX K H (.ref a) (.type "tuple") := by
  rcases h with (h | ⟨o, h⟩) | ⟨o, its, n, hk, hc, _⟩
  · exact .base (.tup h)
  · exact .fTuple h
  · exact .kTuple hk hc
theorem Dv.ty {v : V} {d : PyData} (h : Dv M K H v d) : TyX K H v (.type (tyD d)) := by
  cases h with
  | non => exact .base .non
  | bl b => exact .base (.bl b)
  | int i => exact .base (.int i)
  | str x => exact .base (.str x)
  | lst _ h _ => exact tyx_lst h
  | tup h _ => exact tyx_tup h
/-- a dict with few keys, at the top of a value: what repr tells of it -/
def keyD : Key → PyData
  | .inl i => .int i
  | .inr x => .str x
/-- data, or a dict of such without lists -/
inductive Dq (M : Addr → Prop) (K : PySem.W.Frag) (H : Hp) : V → PyData → Prop
  | data {v : V} {d : PyData} : Dv M K H v d → Dq M K H v d
  | dct {a : Addr} {kvs : List (Key × V)} {ds : List PyData} : ¬ M a → H a = some (.dK kvs) → DtAll K H (kvs.map (·.2)) ds → Dq M K H (.ref a) (.dict ((kvs.map fun p => keyD p.1).zip ds))
end
section
variable {M : Addr → Prop} {K : PySem.W.Frag} {H H' : Hp}
mutual
theorem Dt.dv : ∀ {v : V} {d : PyData}, Dt K H v d → Dv M K H v d
  | _, _, .non => .non
  | _, _, .bl b => .bl b
  | _, _, .int i => .int i
  | _, _, .str x => .str x
  | _, _, .tup h a => .tup h a.dv
theorem DtAll.dv : ∀ {vs : List V} {ds : List PyData}, DtAll K H vs ds → DvAll M K H vs ds
  | _, _, .nil => .nil
  | _, _, .cons h a => .cons h.dv a.dv
end
theorem Dq.stay {v : V} {d : PyData} (t : Go M H H') (h : Dq M K H v d) : Dq M K H' v d := by
  cases h with
  | data h => exact .data (h.stay t)
  | dct m h a => exact .dct m (t.out _ _ m h) (a.stay t.tups)
theorem Dq.ty {v : V} {d : PyData} (h : Dq M K H v d) : TyX K H v (.type (tyD d)) := by
  cases h with
  | data h => exact h.ty
  | dct _ h _ => exact .base (.dK h)
end
section
variable {X : Cx} {pins : List (Addr × Obj)} {σ : L2.St} {H : Hp} {s : Shared} {M : Addr → Prop}
mutual
/-- data without lists is read without a list's place -/
theorem Dt.bare (I : Inv X pins σ H s) : ∀ (d : PyData) (v : V) (u : Value), Dt X.K H v d → RelV v u → Reads s.heap u d []
  | .none, _, _, h, r => by
    cases h
    cases r
    exact Reads.none
  | .bool b, _, _, h, r => by
    cases h
    cases r
    exact Reads.bool b
  | .int i, _, _, h, r => by
    cases h
    obtain ⟨t, rfl⟩ := r
    exact Reads.int i t
  | .str x, _, _, h, r => by
    cases h
    obtain ⟨t, rfl⟩ := r
    exact Reads.str x t
  | .tuple ds, _, _, h, r => by
    cases h with
    | tup hs ha =>
      cases r
      obtain ⟨its, rv, ⟨o, ho, hc, n, hd⟩, _⟩ := I.tuple hs
      exact Reads.tuple ho hc hd (DtAll.bare I ds _ its ha rv)
  | .list _, _, _, h, _ => by cases h
  | .dict _, _, _, h, _ => by cases h
theorem DtAll.bare (I : Inv X pins σ H s) : ∀ (ds : List PyData) (vs : List V) (us : List Value), DtAll X.K H vs ds → Vals vs us → ReadsAll s.heap us ds []
  | [], _, _, h, r => by
    cases h
    cases r
    exact ReadsAll.nil
  | d :: ds, _, _, h, r => by
    cases h with
    | cons h1 h2 =>
      cases r with
      | cons r1 r2 => exact ReadsAll.cons (Dt.bare I d _ _ h1 r1) (DtAll.bare I ds _ _ h2 r2)
end
/-- a dict's keys and values -/
theorem pairs_read {P : Program} {w : World} {kvs : List (Key × V)} {vs : List (Key × Value)} {es : List DictEntry} (kv : KV kvs vs) (ps : Pairs (mixKind P w) es vs) :
    Vals (kvs.map fun p => kV p.1) (es.map (·.key)) ∧ Vals (kvs.map (·.2)) (es.map (·.val)) := by
  induction ps generalizing kvs with
  | nil =>
    cases kv
    exact ⟨.nil, .nil⟩
  | cons hk hv _ ih =>
    cases kv with
    | cons r rr =>
      obtain ⟨i1, i2⟩ := ih rr
      obtain ⟨e1, e2⟩ := r
      refine ⟨.cons ?_ i1, .cons ?_ i2⟩
      · rw [← e1] at hk
        have hk' : keyIs _ _ = true := hk
        rcases keyIs_shape hk' with ⟨i, t, e, q⟩ | ⟨x, t, e, q⟩
        · show RelV (kV _) (DictEntry.key _)
          rw [e, q]
          exact ⟨t, rfl⟩
        · show RelV (kV _) (DictEntry.key _)
          rw [e, q]
          exact ⟨t, rfl⟩
      · show RelV (Prod.snd _) (DictEntry.val _)
        rw [hv]
        exact e2
theorem keys_dt {K : PySem.W.Frag} : ∀ kvs : List (Key × V), DtAll K H (kvs.map fun p => kV p.1) (kvs.map fun p => keyD p.1)
  | [] => .nil
  | (.inl i, v) :: r => .cons (.int i) (keys_dt r)
  | (.inr x, v) :: r => .cons (.str x) (keys_dt r)
/-- repr of such data -/
def rRepV (K : PySem.W.Frag) : List V → Hp → VK → Prop := fun xs H Q => ∃ (M : Addr → Prop) (v : V) (d : PyData), xs = [v] ∧ Dq M K H v d ∧ d.showable = true ∧ d.depth ≤ 60 ∧ d.shown.length ≤ sizeLine ∧ Q (.str d.shown) H
theorem call_repV (guard : X.A.guards = some []) (room : X.A.units + 64 < cLine) : CallR X (.builtin "repr") (rRepV X.K) := by
  intro pins s σ H xs us Q inv rel want
  obtain ⟨M, v, d, e, hd, h1, h2, h3, q⟩ := want
  cases hd with
  | data hd => exact call_rep guard room pins s σ H xs us Q inv rel ⟨v, d, e, hd.dp, h1, h2, h3, q⟩
  | @dct a kvs ds _ ha hv =>
    subst e
    cases rel with
    | cons r0 rr =>
      cases rr
      cases r0
      obtain ⟨_, sys, vs, kv, o, es, ep, ho, ex, hdat, _, ps, _⟩ := (show ObjOk X.prog X.w H s.heap a (.dK kvs) from inv.hok a _ ha)
      obtain ⟨r1, r2⟩ := pairs_read kv ps
      have k1 := DtAll.bare inv _ _ _ (keys_dt kvs) r1
      have k2 := DtAll.bare inv _ _ _ hv r2
      have len : (kvs.map fun p => keyD p.1).length = ds.length := by rw [List.length_map, ← hv.len, List.length_map]
      have z1 : ((kvs.map fun p => keyD p.1).zip ds).map (·.1) = kvs.map fun p => keyD p.1 := List.map_fst_zip (by rw [len]; exact Nat.le_refl _)
      have z2 : ((kvs.map fun p => keyD p.1).zip ds).map (·.2) = ds := List.map_snd_zip (by rw [len]; exact Nat.le_refl _)
      have reads : Reads s.heap (.ref a) (.dict ((kvs.map fun p => keyD p.1).zip ds)) (a :: [] ++ []) := Reads.dict ho ex.1 hdat (by rw [z1]; exact k1) (by rw [z2]; exact k2)
      refine repr_of_reads' reads h1 (fun _ mem => ?_) guard (by omega) (fun _ _ z => z) (fun h' u' tk keep => ⟨.str _, H, inv.kept keep, ⟨_, rfl⟩, q⟩) h3
      have e : sysModules = a := by simpa using mem
      rw [e] at sys
      simp at sys
end
end LG
namespace LG
open PySem PySem.Spec PyProof.Rows L2
section
variable {M : Addr → Prop} {K : PySem.W.Frag} {H H' : Hp}
/-- what was made since is changed -/
theorem Go.own {p : Addr} (g : Go M H H') (h : H p = none) (o : HO) : Go M H (L2.upd H' p o) := ⟨fun b u m e => by
  rw [upd_ne (ne_of_none e h)]
  exact g.out b u m e, fun b u k e => by
  rw [upd_ne (ne_of_none e h)]
  exact g.tups b u k e⟩
theorem Hand.off {h d p : Addr} {ds : List Int} {n : Nat} (x : Hand H h d ds n) (hp : p ≠ h) (dp : p ≠ d) (o : HO) : Hand (L2.upd H p o) h d ds n := ⟨by rw [upd_ne hp.symm]; exact x.1, by rw [upd_ne dp.symm]; exact x.2⟩
theorem Hand.go {h d : Addr} {ds : List Int} {n : Nat} (x : Hand H h d ds n) : Go (· = h) H (L2.upd H h (.lst [.ref d, .int ((n + 1 : Nat) : Int)])) := Go.put rfl x.1
theorem Hand.new {h d p : Addr} {ds : List Int} {n : Nat} (x : Hand H h d ds n) (hp : H p = none) (o : HO) : Hand (L2.upd H p o) h d ds n := x.same (same_new hp o)
theorem at_any {α : Type} {xs : List α} {i : Int} (h0 : -(xs.length : Int) ≤ i) (h1 : i < (xs.length : Int)) : ∃ (j : Nat) (y : α), xs[j]? = some y ∧ atI xs i = some y := by
  by_cases h : 0 ≤ i
  · have lt : i.toNat < xs.length := by omega
    refine ⟨i.toNat, xs[i.toNat], by simp [lt], ?_⟩
    unfold atI ixN
    rw [if_pos h, if_pos h1]
    simp [lt]
  · have lt : (i + (xs.length : Int)).toNat < xs.length := by omega
    refine ⟨(i + (xs.length : Int)).toNat, xs[(i + (xs.length : Int)).toNat], by simp [lt], ?_⟩
    unfold atI ixN
    rw [if_neg h, if_pos h0]
    simp [lt]
/-- some item of a row of data -/
theorem DvAll.pick {xs : List V} {ds : List PyData} {i : Int} (a : DvAll M K H xs ds) (h0 : -(ds.length : Int) ≤ i) (h1 : i < (ds.length : Int)) : ∃ y e, atI xs i = some y ∧ e ∈ ds ∧ Dv M K H y e := by
  rw [← a.len] at h0 h1
  obtain ⟨j, y, hj, hy⟩ := at_any h0 h1
  obtain ⟨e, he, d⟩ := a.of hj
  exact ⟨y, e, hy, List.mem_of_getElem? he, d⟩
theorem DtAll.pick {xs : List V} {ds : List PyData} {i : Int} (a : DtAll K H xs ds) (h0 : -(ds.length : Int) ≤ i) (h1 : i < (ds.length : Int)) : ∃ y e, atI xs i = some y ∧ e ∈ ds ∧ Dt K H y e := by
  rw [← a.len] at h0 h1
  obtain ⟨j, y, hj, hy⟩ := at_any h0 h1
  obtain ⟨e, he, d⟩ := a.of hj
  exact ⟨y, e, hy, List.mem_of_getElem? he, d⟩
inductive DqAll (M : Addr → Prop) (K : PySem.W.Frag) (H : Hp) : List V → List PyData → Prop
  | nil : DqAll M K H [] []
  | cons {v : V} {vs : List V} {d : PyData} {ds : List PyData} : Dq M K H v d → DqAll M K H vs ds → DqAll M K H (v :: vs) (d :: ds)
theorem DqAll.len : ∀ {vs : List V} {ds : List PyData}, DqAll M K H vs ds → vs.length = ds.length
  | _, _, .nil => rfl
  | _, _, .cons _ a => by rw [List.length_cons, List.length_cons, a.len]
theorem DqAll.of : ∀ {vs : List V} {ds : List PyData} {i : Nat} {v : V}, DqAll M K H vs ds → vs[i]? = some v → ∃ d, ds[i]? = some d ∧ Dq M K H v d
  | _, _, _, _, .nil, e => by simp at e
  | _, _, 0, _, .cons h _, e => by simp at e; subst e; exact ⟨_, rfl, h⟩
  | _, _, i + 1, d, .cons _ a, e => by simpa using a.of (i := i) (by simpa using e)
theorem DqAll.pick {xs : List V} {ds : List PyData} {i : Int} (a : DqAll M K H xs ds) (h0 : -(ds.length : Int) ≤ i) (h1 : i < (ds.length : Int)) : ∃ y e, atI xs i = some y ∧ e ∈ ds ∧ Dq M K H y e := by
  rw [← a.len] at h0 h1
  obtain ⟨j, y, hj, hy⟩ := at_any h0 h1
  obtain ⟨e, he, d⟩ := a.of hj
  exact ⟨y, e, hy, List.mem_of_getElem? he, d⟩
theorem DqAll.stay (t : Go M H H') : ∀ {vs : List V} {ds : List PyData}, DqAll M K H vs ds → DqAll M K H' vs ds
  | _, _, .nil => .nil
  | _, _, .cons h a => .cons (h.stay t) (a.stay t)
/-- two parts -/
theorem sized_two {m1 m2 h1 h2 : Nat} {a b : PyData} (sa : Sized m1 h1 a) (sb : Sized m2 h2 b) : Sized (m1 + m2 + 2) (max h1 h2 + 1) (.tuple [a, b]) := by
  obtain ⟨a1, a2, a3, a4⟩ := sa
  obtain ⟨b1, b2, b3, b4⟩ := sb
  refine ⟨?_, ?_, ?_, ?_⟩
  · simp only [PyData.leavesShort, PyData.leavesShortAll, a1, b1, Bool.and_self]
  · simp only [PyData.showable, PyData.showableAll, a2, b2, Bool.and_self]
  · simp only [PyData.depth, PyData.depthAll]
    omega
  · simp only [PyData.bulk, PyData.bulkAll]
    omega
theorem sized_str (x : Str) (h : (x.cps.toList.all fun c => decide (c < 16 ^ 8)) = true) (n : Nat) (hn : x.cps.size ≤ n) : Sized n 0 (.str x) := ⟨by simp only [PyData.leavesShort]; exact h, by simp only [PyData.showable], by simp only [PyData.depth]; omega, by simp only [PyData.bulk]; exact hn⟩
end
end LG
/-! ### tuples of ints: order, sorting; membership -/
namespace LG
open PySem PySem.Spec PyProof.Rows L2
/-- a row of ints as data -/
def tupI (r : List Int) : PyData := .tuple (r.map PyData.int)
section
variable {X : Cx}
theorem dp_row {K : PySem.W.Frag} {H : Hp} {a : Addr} {ns : List Int} (h : SqT K H a (ns.map V.int)) : Dp K H (.ref a) (tupI ns) := .tup h (DtAll.ints ns).dp
theorem row_depth (ns : List Int) : (tupI ns).depth = 1 := by
  unfold tupI
  simp only [PyData.depth, PySem.W.depth_ints]
theorem row_lt (ns ms : List Int) : PySem.W.dataLt (tupI ns) (tupI ms) = decide (ns < ms) := by
  rw [← PySem.W.dataLt_ints]
  exact PySem.W.dataLt_tuple _ _
theorem row_alike (ns ms : List Int) : PySem.W.alike (tupI ns) (tupI ms) = true := by
  unfold tupI
  rw [PySem.W.alike]
  exact PySem.W.alike_ints ns ms
/-- x >= y, rows of ints -/
def rGeR (K : PySem.W.Frag) : R2 := fun x y H Q => ∃ (a b : Addr) (ns ms : List Int), x = .ref a ∧ y = .ref b ∧ SqT K H a (ns.map V.int) ∧ SqT K H b (ms.map V.int) ∧ Q (.bl (!decide (ns < ms))) H
theorem op_geR (hu : X.A.units + 64 < cLine) : OpR X (compareOp .GtE) (rGeR X.K) := by
  intro pins s σ H x y v u Q I rx ry h
  obtain ⟨a, b, ns, ms, rfl, rfl, ha, hb, q⟩ := h
  obtain ⟨as, r1⟩ := Dp.reads I _ _ v (dp_row ha) rx
  obtain ⟨bs, r2⟩ := Dp.reads I _ _ u (dp_row hb) ry
  exact PySem.W.ge_data r1 r2 (row_alike ns ms) (by unfold tupI; exact nofun) (by rw [row_depth]; omega) ⟨.bl _, H, I, rfl, by rw [row_lt]; exact q⟩
def rLtR (K : PySem.W.Frag) : R2 := fun x y H Q => ∃ (a b : Addr) (ns ms : List Int), x = .ref a ∧ y = .ref b ∧ SqT K H a (ns.map V.int) ∧ SqT K H b (ms.map V.int) ∧ Q (.bl (decide (ns < ms))) H
theorem op_ltR (hu : X.A.units + 64 < cLine) : OpR X (compareOp .Lt) (rLtR X.K) := by
  intro pins s σ H x y v u Q I rx ry h
  obtain ⟨a, b, ns, ms, rfl, rfl, ha, hb, q⟩ := h
  obtain ⟨as, r1⟩ := Dp.reads I _ _ v (dp_row ha) rx
  obtain ⟨bs, r2⟩ := Dp.reads I _ _ u (dp_row hb) ry
  exact PySem.W.lt_data r1 r2 (row_alike ns ms) (by unfold tupI; exact nofun) (by rw [row_depth]; omega) ⟨.bl _, H, I, rfl, by rw [row_lt]; exact q⟩
/-- x in t, t a tuple of data -/
def rInTD (K : PySem.W.Frag) : R2 := fun x y H Q => ∃ d ds, Dp K H x d ∧ Dp K H y (.tuple ds) ∧ SeqAt.shaped d = true ∧ SeqAt.shaped (.list ds) = true ∧ Q (.bl (ds.any fun z => PyData.eqv z d)) H
theorem op_inTD (hu : X.A.units + 65 < cLine) : OpR X (compareOp .In) (rInTD X.K) := by
  intro pins s σ H x y v u Q I rx ry h
  obtain ⟨d, ds, hd, he, sd, se, q⟩ := h
  obtain ⟨as, r1⟩ := Dp.reads I d x v hd rx
  obtain ⟨bs, r2⟩ := Dp.reads I (.tuple ds) y u he ry
  exact SeqAt.in_tuple_reads r2 r1 (SeqAt.canLay_of_shaped se) (SeqAt.canLay_of_shaped sd) (room_in_shaped sd hu) ⟨.bl _, H, I, rfl, q⟩
/-- the order of sorting -/
def leR (a b : List Int) : Bool := !decide (b < a)
def rSortR (K : PySem.W.Frag) : List V → Hp → VK → Prop := fun vs H Q => ∃ (a : Addr) (xs : List V) (rs : List (List Int)), vs = [V.ref a] ∧ SqL K H a xs ∧ DtAll K H xs (rs.map tupI) ∧ rs.length ≤ 1000 ∧ (∀ r ∈ rs, r ≠ []) ∧
  ∀ (ys : List V) (p : Addr), H p = none → DtAll K H ys ((rs.mergeSort leR).map tupI) → Q (.ref p) (upd H p (.lst ys))
theorem each_of {K : PySem.W.Frag} {H : Hp} : ∀ {rs : List (List Int)} {xs : List V} {us : List Value}, DtAll K H xs (rs.map tupI) → Vals xs us → PySem.W.EachIs (fun u r => ∃ t, u = Value.ref t ∧ SqT K H t (r.map V.int)) us rs
  | [], _, _, h, r => by
    cases h
    cases r
    exact .nil
  | b :: bs, _, _, h, r => by
    cases h with
    | cons h1 h2 =>
      cases r with
      | cons r1 r2 =>
        refine .cons ?_ (each_of h2 r2)
        cases h1 with
        | @tup a ys ds hs ha =>
          cases r1
          refine ⟨a, rfl, ?_⟩
          have e : ys = b.map V.int := by
            clear hs h2 r2
            induction b generalizing ys with
            | nil => cases ha; rfl
            | cons x b ih =>
              cases ha with
              | cons h h' =>
                cases h
                rw [List.map_cons, ← ih h']
          rw [← e]
          exact hs
theorem each_back {K : PySem.W.Frag} {H : Hp} : ∀ {rs : List (List Int)} {us : List Value}, PySem.W.EachIs (fun u r => ∃ t, u = Value.ref t ∧ SqT K H t (r.map V.int)) us rs → ∃ ys, Vals ys us ∧ DtAll K H ys (rs.map tupI)
  | [], _, .nil => ⟨[], .nil, .nil⟩
  | b :: bs, _, .cons ⟨t, e, h⟩ r => by
    obtain ⟨ys, v, d⟩ := each_back r
    subst e
    exact ⟨.ref t :: ys, .cons rfl v, .cons (.tup h (DtAll.ints b)) d⟩
theorem cr_sortR (hu : X.A.units + 64 < cLine) : CallR X (.builtin "sorted") (rSortR X.K) := by
  intro pins s σ H vs us Q I r h
  obtain ⟨a, xs, rs, rfl, hs, hd, hz, ne, q⟩ := h
  obtain ⟨its, rv, hl, hz2⟩ := I.list hs
  rw [Vals.ref1 r]
  have ea := each_of hd rv
  have er : PySem.W.EachIs (fun v b => ∃ as, Reads s.heap v (tupI b) as) its rs := ea.mono fun u b ⟨t, e, ht⟩ => by
    subst e
    exact Dp.reads I _ _ _ (dp_row ht) rfl
  have al : PySem.W.AllAlike (rs.map tupI) := fun d hd d' hd' => by
    obtain ⟨x, _, rfl⟩ := List.mem_map.mp hd
    obtain ⟨y, _, rfl⟩ := List.mem_map.mp hd'
    exact row_alike x y
  have so : PySem.W.Sortable (rs.map tupI) := .inl fun d hd => by
    obtain ⟨x, hx, rfl⟩ := List.mem_map.mp hd
    cases x with
    | nil => exact absurd rfl (ne _ hx)
    | cons i x => exact ⟨_, _, rfl⟩
  refine PySem.W.sorted_data hl.isList ea er al so (Nat.le_trans hz (by decide)) (fun b _ => by rw [row_depth]; omega) fun out hlen hout => ?_
  have eo : PySem.W.dataLe false tupI = leR := by
    rw [PySem.W.dataLe_eq]
    funext x y
    simp only [cond_false, row_lt]
    rfl
  rw [eo] at hout
  obtain ⟨ys, vy, dy⟩ := each_back hout
  obtain ⟨ep, he'⟩ := PyProof.Rows.sortedAll_at s.heap its out.toArray
  have len : ys.length ≤ sizeLine := by
    rw [vy.length, hlen]
    exact Nat.le_trans hz (by decide)
  exact ⟨.ref _, upd H (s.heap.objs.size + 1) (.lst ys), I.laid (t' := s.toks) (fun _ _ => PyProof.Rows.sortedAll_old) (Nat.le_succ _) ⟨len, out, ep, vy, he'⟩, rfl, q _ _ (I.hok.fresh (Nat.le_succ _)) dy⟩
end
end LG
/-! ### data with dicts at any place -/
namespace LG
open PySem PySem.Spec PyProof.Rows L2
mutual
inductive Dn (M : Addr → Prop) (K : PySem.W.Frag) (H : Hp) : V → PyData → Prop
  | non : Dn M K H .non .none
  | bl (b : Bool) : Dn M K H (.bl b) (.bool b)
  | int (i : Int) : Dn M K H (.int i) (.int i)
  | str (x : Str) : Dn M K H (.str x) (.str x)
  | lst {a : Addr} {xs : List V} {ds : List PyData} : ¬ M a → H a = some (.lst xs) → DnAll M K H xs ds → Dn M K H (.ref a) (.list ds)
  | tup {a : Addr} {xs : List V} {ds : List PyData} : SqT K H a xs → DnAll M K H xs ds → Dn M K H (.ref a) (.tuple ds)
  | dct {a : Addr} {kvs : List (Key × V)} {ds : List PyData} : ¬ M a → H a = some (.dK kvs) → DnAll M K H (kvs.map (·.2)) ds → Dn M K H (.ref a) (.dict ((kvs.map fun p => keyD p.1).zip ds))
inductive DnAll (M : Addr → Prop) (K : PySem.W.Frag) (H : Hp) : List V → List PyData → Prop
  | nil : DnAll M K H [] []
  | cons {v : V} {vs : List V} {d : PyData} {ds : List PyData} : Dn M K H v d → DnAll M K H vs ds → DnAll M K H (v :: vs) (d :: ds)
end
section
variable {M M' : Addr → Prop} {K : PySem.W.Frag} {H H' : Hp}
mutual
theorem Dt.dn : ∀ {v : V} {d : PyData}, Dt K H v d → Dn M K H v d
  | _, _, .non => .non
  | _, _, .bl b => .bl b
  | _, _, .int i => .int i
  | _, _, .str x => .str x
  | _, _, .tup h a => .tup h a.dn
theorem DtAll.dn : ∀ {vs : List V} {ds : List PyData}, DtAll K H vs ds → DnAll M K H vs ds
  | _, _, .nil => .nil
  | _, _, .cons h a => .cons h.dn a.dn
end
mutual
theorem Dn.stay (t : Go M H H') : ∀ {v : V} {d : PyData}, Dn M K H v d → Dn M K H' v d
  | _, _, .non => .non
  | _, _, .bl b => .bl b
  | _, _, .int i => .int i
  | _, _, .str x => .str x
  | _, _, .lst m h a => .lst m (t.out _ _ m h) (a.stay t)
  | _, _, .tup h a => .tup (t.seqT h) (a.stay t)
  | _, _, .dct m h a => .dct m (t.out _ _ m h) (a.stay t)
theorem DnAll.stay (t : Go M H H') : ∀ {vs : List V} {ds : List PyData}, DnAll M K H vs ds → DnAll M K H' vs ds
  | _, _, .nil => .nil
  | _, _, .cons h a => .cons (h.stay t) (a.stay t)
end
theorem DnAll.len : ∀ {vs : List V} {ds : List PyData}, DnAll M K H vs ds → vs.length = ds.length
  | _, _, .nil => rfl
  | _, _, .cons _ a => by rw [List.length_cons, List.length_cons, a.len]
theorem DnAll.at : ∀ {vs : List V} {ds : List PyData} {i : Nat} {d : PyData}, DnAll M K H vs ds → ds[i]? = some d → ∃ v, vs[i]? = some v ∧ Dn M K H v d
  | _, _, _, _, .nil, e => by simp at e
  | _, _, 0, _, .cons h _, e => by simp at e; subst e; exact ⟨_, rfl, h⟩
  | _, _, i + 1, d, .cons _ a, e => by simpa using a.at (i := i) (by simpa using e)
theorem DnAll.of : ∀ {vs : List V} {ds : List PyData} {i : Nat} {v : V}, DnAll M K H vs ds → vs[i]? = some v → ∃ d, ds[i]? = some d ∧ Dn M K H v d
  | _, _, _, _, .nil, e => by simp at e
  | _, _, 0, _, .cons h _, e => by simp at e; subst e; exact ⟨_, rfl, h⟩
  | _, _, i + 1, d, .cons _ a, e => by simpa using a.of (i := i) (by simpa using e)
theorem DnAll.app : ∀ {vs ws : List V} {ds es : List PyData}, DnAll M K H vs ds → DnAll M K H ws es → DnAll M K H (vs ++ ws) (ds ++ es)
  | _, _, _, _, .nil, b => b
  | _, _, _, _, .cons h a, b => .cons h (a.app b)
theorem DnAll.take : ∀ {vs : List V} {ds : List PyData} (n : Nat), DnAll M K H vs ds → DnAll M K H (vs.take n) (ds.take n)
  | _, _, 0, _ => .nil
  | _, _, _ + 1, .nil => .nil
  | _, _, n + 1, .cons h a => .cons h (a.take n)
theorem DnAll.drop : ∀ {vs : List V} {ds : List PyData} (n : Nat), DnAll M K H vs ds → DnAll M K H (vs.drop n) (ds.drop n)
  | _, _, 0, a => a
  | _, _, _ + 1, .nil => .nil
  | _, _, n + 1, .cons _ a => a.drop n
theorem DnAll.pick {xs : List V} {ds : List PyData} {i : Int} (a : DnAll M K H xs ds) (h0 : -(ds.length : Int) ≤ i) (h1 : i < (ds.length : Int)) : ∃ y e, atI xs i = some y ∧ e ∈ ds ∧ Dn M K H y e := by
  rw [← a.len] at h0 h1
  obtain ⟨j, y, hj, hy⟩ := at_any h0 h1
  obtain ⟨e, he, d⟩ := a.of hj
  exact ⟨y, e, hy, List.mem_of_getElem? he, d⟩
theorem Dn.ty {v : V} {d : PyData} (h : Dn M K H v d) : TyX K H v (.type (tyD d)) := by
  cases h with
  | non => exact .base .non
  | bl b => exact .base (.bl b)
  | int i => exact .base (.int i)
  | str x => exact .base (.str x)
  | lst _ h _ => exact tyx_lst (SqL.of h)
  | tup h _ => exact tyx_tup h
  | dct _ h _ => exact .base (.dK h)
theorem dn_tup {x : V} {ds : List PyData} (h : Dn M K H x (.tuple ds)) : ∃ a xs, x = .ref a ∧ SqT K H a xs ∧ DnAll M K H xs ds := by
  cases h with
  | tup h1 h2 => exact ⟨_, _, rfl, h1, h2⟩
theorem dn_int {x : V} {i : Int} (h : Dn M K H x (.int i)) : x = .int i := by
  cases h
  rfl
theorem dn_str {x : V} {i : Str} (h : Dn M K H x (.str i)) : x = .str i := by
  cases h
  rfl
/-- without dicts it is the library's data -/
theorem Dn.dp : ∀ (d : PyData) {v : V}, d.hasDict = false → Dn M K H v d → Dp K H v d
  | .none, _, _, .non => .non
  | .bool b, _, _, .bl _ => .bl b
  | .int i, _, _, .int _ => .int i
  | .str x, _, _, .str _ => .str x
  | .list ds, _, n, .lst _ h a => .lst (SqL.of h) (go ds (by simpa only [PyData.hasDict] using n) a)
  | .tuple ds, _, n, .tup h a => .tup h (go ds (by simpa only [PyData.hasDict] using n) a)
  | .dict _, _, n, _ => by simp [PyData.hasDict] at n
where go : ∀ (ds : List PyData) {vs : List V}, PyData.hasDictAll ds = false → DnAll M K H vs ds → DpAll K H vs ds
  | [], _, _, .nil => .nil
  | d :: ds, _, n, .cons h a => by
    simp only [PyData.hasDictAll, Bool.or_eq_false_iff] at n
    exact .cons (Dn.dp d n.1 h) (go ds n.2 a)
/-- the table of modules is no list of ours -/
def Sys (K : PySem.W.Frag) (H : Hp) : Prop := ∃ o u, H sysModules = some (.frz o u)
theorem Sys.same (s : Sys K H) (e : Same H H') : Sys K H' := by
  obtain ⟨o, u, h⟩ := s
  exact ⟨o, u, e _ _ h⟩
theorem Sys.go (s : Sys K H) (e : Go M H H') (m : ¬ M sysModules) : Sys K H' := by
  obtain ⟨o, u, h⟩ := s
  exact ⟨o, u, e.out _ _ m h⟩
theorem Sys.lst (s : Sys K H) {a : Addr} {xs : List V} (h : H a = some (.lst xs)) : sysModules ≠ a := by
  obtain ⟨o, u, e⟩ := s
  rintro rfl
  rw [e] at h
  cases h
theorem Sys.ne (s : Sys K H) {a : Addr} {xs : List V} (h : H a = some (.lst xs)) : ¬ sysModules = a := s.lst h
end
section
variable {X : Cx} {pins : List (Addr × Obj)} {σ : L2.St} {H : Hp} {s : Shared} {M : Addr → Prop}
mutual
theorem Dn.reads (I : Inv X pins σ H s) (S : Sys X.K H) : ∀ {v : V} {d : PyData}, Dn M X.K H v d → ∀ u : Value, RelV v u → ∃ as, Reads s.heap u d as ∧ sysModules ∉ as
  | _, _, .non, _, r => by
    cases r
    exact ⟨_, Reads.none, List.not_mem_nil⟩
  | _, _, .bl b, _, r => by
    cases r
    exact ⟨_, Reads.bool b, List.not_mem_nil⟩
  | _, _, .int i, _, r => by
    obtain ⟨t, rfl⟩ := r
    exact ⟨_, Reads.int i t, List.not_mem_nil⟩
  | _, _, .str x, _, r => by
    obtain ⟨t, rfl⟩ := r
    exact ⟨_, Reads.str x t, List.not_mem_nil⟩
  | _, _, .lst _ hs ha, _, r => by
    cases r
    obtain ⟨its, rv, ⟨o, n, ho, hc, _, hd⟩, _⟩ := I.list (SqL.of hs)
    obtain ⟨as, q1, q2⟩ := DnAll.reads I S ha its rv
    refine ⟨_, Reads.list ho hc hd (by simpa using q1), ?_⟩
    rw [List.mem_cons]
    rintro (e | e)
    · exact S.lst hs e
    · exact q2 e
  | _, _, .tup hs ha, _, r => by
    cases r
    obtain ⟨its, rv, ⟨o, ho, hc, n, hd⟩, _⟩ := I.tuple hs
    obtain ⟨as, q1, q2⟩ := DnAll.reads I S ha its rv
    exact ⟨_, Reads.tuple ho hc hd (by simpa using q1), q2⟩
  | _, _, .dct (a := a) (kvs := kvs) (ds := ds) _ hH ha, _, r => by
    cases r
    obtain ⟨_, sys, vs, kv, o, es, ep, ho, ex, hdat, _, ps, _⟩ := (show ObjOk X.prog X.w H s.heap a (.dK kvs) from I.hok a _ hH)
    obtain ⟨r1, r2⟩ := pairs_read kv ps
    have k1 := DtAll.bare I _ _ _ (keys_dt kvs) r1
    have len : (kvs.map fun p => keyD p.1).length = ds.length := by rw [List.length_map, ← ha.len, List.length_map]
    have z1 : ((kvs.map fun p => keyD p.1).zip ds).map (·.1) = kvs.map fun p => keyD p.1 := List.map_fst_zip (by rw [len]; exact Nat.le_refl _)
    have z2 : ((kvs.map fun p => keyD p.1).zip ds).map (·.2) = ds := List.map_snd_zip (by rw [len]; exact Nat.le_refl _)
    obtain ⟨as, q1, q2⟩ := DnAll.reads I S ha _ r2
    refine ⟨_, Reads.dict ho ex.1 hdat (by rw [z1]; exact k1) (by rw [z2]; exact q1), ?_⟩
    rw [List.mem_append, List.mem_singleton]
    rintro (e | e)
    · rw [← e] at sys
      simp at sys
    · exact q2 e
theorem DnAll.reads (I : Inv X pins σ H s) (S : Sys X.K H) : ∀ {vs : List V} {ds : List PyData}, DnAll M X.K H vs ds → ∀ us : List Value, Vals vs us → ∃ as, ReadsAll s.heap us ds as ∧ sysModules ∉ as
  | _, _, .nil, _, r => by
    cases r
    exact ⟨_, ReadsAll.nil, List.not_mem_nil⟩
  | _, _, .cons h1 h2, _, r => by
    cases r with
    | cons r1 r2 =>
      obtain ⟨as, q1, n1⟩ := Dn.reads I S h1 _ r1
      obtain ⟨bs, q2, n2⟩ := DnAll.reads I S h2 _ r2
      refine ⟨_, ReadsAll.cons q1 q2, ?_⟩
      rw [List.mem_append]
      rintro (e | e)
      · exact n1 e
      · exact n2 e
end
end
section
variable {X : Cx}
/-- repr of such data -/
def rRepN (K : PySem.W.Frag) : List V → Hp → VK → Prop := fun xs H Q => ∃ (M : Addr → Prop) (v : V) (d : PyData), xs = [v] ∧ Dn M K H v d ∧ Sys K H ∧ d.showable = true ∧ d.depth ≤ 60 ∧ d.shown.length ≤ sizeLine ∧ Q (.str d.shown) H
theorem call_repN (guard : X.A.guards = some []) (room : X.A.units + 64 < cLine) : CallR X (.builtin "repr") (rRepN X.K) := by
  intro pins s σ H xs us Q inv rel want
  obtain ⟨M, v, d, rfl, hd, S, h1, h2, h3, q⟩ := want
  cases rel with
  | cons r0 rr =>
  rename_i u us'
  cases rr
  obtain ⟨as, reads, no⟩ := Dn.reads inv S hd u r0
  have dict : d.hasDict = true → sysModules ∉ as := fun _ => no
  cases hd with
  | non =>
    cases r0
    exact PySem.P.repr_of_none ⟨.str _, H, inv.tok _, ⟨_, rfl⟩, by simpa only [PyData.shown] using q⟩
  | bl b =>
    cases r0
    refine PySem.P.repr_of_bool ⟨.str _, H, inv.tok _, ⟨_, rfl⟩, by simpa only [PyData.shown] using q⟩
  | int i =>
    obtain ⟨t, rfl⟩ := r0
    exact PySem.P.repr_of_int (by simpa [PyData.showable] using h1) ⟨.str _, H, inv.tok _, ⟨_, rfl⟩, by simpa only [PyData.shown] using q⟩
  | str x =>
    obtain ⟨t, rfl⟩ := r0
    exact PySem.P.repr_of_str ⟨.str _, H, inv.tok _, ⟨_, rfl⟩, by simpa only [PyData.shown] using q⟩ (by simpa only [PyData.shown] using h3)
  | lst _ _ _ =>
    cases r0
    exact repr_of_reads' reads h1 dict guard (by omega) (fun _ _ z => z) (fun h' u' tk keep => ⟨.str _, H, inv.kept keep, ⟨_, rfl⟩, q⟩) h3
  | tup _ _ =>
    cases r0
    exact repr_of_reads' reads h1 dict guard (by omega) (fun _ _ z => z) (fun h' u' tk keep => ⟨.str _, H, inv.kept keep, ⟨_, rfl⟩, q⟩) h3
  | dct _ _ _ =>
    cases r0
    exact repr_of_reads' reads h1 dict guard (by omega) (fun _ _ z => z) (fun h' u' tk keep => ⟨.str _, H, inv.kept keep, ⟨_, rfl⟩, q⟩) h3
end
end LG
/-! ### the end, the table of modules told apart -/
namespace LG
open PySem PySem.W PySem.Spec PyProof.Rows L2
section
variable {P : Program} {w : World} {K : PySem.W.Frag} {mg mb : Str → Option Value} {k : Nat} {fa a : Addr} {fd : FuncData} {x : Str} {sp : Sp} {s : Shared} {vs : List Value} {ns : List Int}
theorem endS_from (inK : K.In s.heap) (mains : s.heap.Ns mainGlobals mg) (blts : s.heap.Ns builtinsNs mb) (boot : ∀ y : Str, y ≠ "__name__" → mb y = bootBuiltins y) (noLim : s.heap.NoLimit) (gens : s.gens = #[])
    (obj : s.heap.get? a = some { cls := .type "list", data := .seq vs.toArray }) (room : Room k callerA) (goesF : ∀ base : Heap, K.In base → base.Ns mainGlobals mg → FnG P w K mg base k fa fd [x] sp)
    (bind : ∀ (s : Shared) (u : Value), BindsTo s fd ⟨[u], []⟩ [(x, u)]) (H : Hp) (only : ∀ b, H b = none ∨ ∃ o u, H b = some (.frz o u)) (held : HOk P w H s.heap) (alone : ∀ b, H b ≠ none → b = a ∨ b = sysModules) (away : ∀ b, H b ≠ none → K.lookup b = none)
    (want : sp [.ref a] H (fun v _ => v = .bl true) E0) :
    codeAny (model P w) callerA (.call (.ref fa) ⟨[.ref a], []⟩) (fun r s' => r = .ok (.ret (.bool true)) ∧ OldK s.heap s'.heap ∧ s'.os = s.os ∧ AllBare s'.gens) s := by
  have space : ∀ {b : Addr} {m : Str → Option Value}, b ≠ sysModules → s.heap.Ns b m → (hidT s.heap H).Ns b m := fun {b m} nb ⟨o, es, ep, e, d, more⟩ =>
    ⟨o, es, ep, hidT_get e (by
      cases q : H b with
      | none => rfl
      | some u =>
        rcases alone b (by rw [q]; exact nofun) with here | here
        · rw [here, obj] at e
          have e2 := Option.some.inj e
          rw [← e2] at d
          exact nomatch d
        · exact absurd here nb), d, more⟩
  have baseK : K.In (hidT s.heap H) := fun b o e => hidT_get (inK b o e) (by
    cases q : H b with
    | none => rfl
    | some u =>
      have no := away b (by rw [q]; exact nofun)
      rw [no] at e
      exact nomatch e)
  have lim : (hidT s.heap H).NoLimit := by
    obtain ⟨mc, h1, h2⟩ := noLim
    exact ⟨mc, space (by decide) h1, h2⟩
  have mains2 := space (by decide) mains
  have modu : Mod K mg (hidT s.heap H) := ⟨baseK, mains2, ⟨mb, space (by decide) blts, boot⟩, lim⟩
  have e0 : Env0 P w K mg (hidT s.heap H) callerA [] s H := ⟨rfl, modu, fun _ _ e => of_hidT e, Nat.le_of_eq (hidT_size _ _), trivial, (fun _ hb => absurd (show _ ∈ ([] : List Addr) from hb) List.not_mem_nil), held, .of_eq gens⟩
  refine codeAny_mono ((goesF _ baseK mains2).goes callerA [] s H [.ref a] [.ref a] _ E0 rfl room e0 (bind s (.ref a)) (.cons rfl .nil) want) fun r s' got => ?_
  cases r with
  | error _ => exact False.elim got
  | ok flow =>
  cases flow with
  | next => exact False.elim got
  | brk => exact False.elim got
  | cont => exact False.elim got
  | ret u =>
    obtain ⟨v, H', sameOs, bare, un, held', rel, yes⟩ := got
    have yes' : v = .bl true := yes
    subst yes'
    obtain rfl : u = Value.bool true := rel
    refine ⟨rfl, OldK.of_keep fun b o e => ?_, sameOs, bare⟩
    rcases only b with free | ⟨ob, xs, fz⟩
    · exact un.keep b o e free (fun z => nomatch z) (fun z => nomatch z)
    · obtain ⟨e1, _⟩ := held b _ fz
      obtain ⟨e2, _⟩ := held' b _ (un.frzs b ob _ fz)
      rw [e2, ← e1, e]
theorem endS_call (inK : K.In s.heap) (mains : s.heap.Ns mainGlobals mg) (blts : s.heap.Ns builtinsNs mb) (boot : ∀ y : Str, y ≠ "__name__" → mb y = bootBuiltins y) (noLim : s.heap.NoLimit) (gens : s.gens = #[])
    (obj : s.heap.get? a = some { cls := .type "list", data := .seq vs.toArray }) (numbs : PyProof.Rows.IntsAre vs ns) (small : ns.length ≤ sizeLine) (room : Room k callerA) (sysK : K.lookup sysModules = none) (seer : s.heap.NoSeer)
    (goesF : ∀ base : Heap, K.In base → base.Ns mainGlobals mg → FnG P w K mg base k fa fd [x] sp) (bind : ∀ (s : Shared) (u : Value), BindsTo s fd ⟨[u], []⟩ [(x, u)])
    (want : ∀ H : Hp, Sys K H → SqL K H a (ns.map V.int) → sp [.ref a] H (fun v _ => v = .bl true) E0) :
    codeAny (model P w) callerA (.call (.ref fa) ⟨[.ref a], []⟩) (fun r s' => r = .ok (.ret (.bool true)) ∧ OldK s.heap s'.heap ∧ s'.os = s.os ∧ AllBare s'.gens) s := by
  have rel := vals_ints numbs
  obtain ⟨ob, hob⟩ : ∃ ob, s.heap.get? sysModules = some ob := by
    obtain ⟨mm, ⟨o, es, ep, e, _⟩, _⟩ := seer.mods
    exact ⟨o, e⟩
  let two : Hp := fun b => if b = a ∧ K.lookup a = none then some (.frz { cls := .type "list", data := .seq vs.toArray } (.lst (ns.map V.int))) else if b = sysModules then some (.frz ob (.ext fun h => h.get? sysModules = some ob)) else none
  have only : ∀ b, two b = none ∨ ∃ o u, two b = some (.frz o u) := fun b => by
    by_cases h1 : b = a ∧ K.lookup a = none
    · exact .inr ⟨_, _, if_pos h1⟩
    · by_cases h2 : b = sysModules
      · exact .inr ⟨_, _, (if_neg h1).trans (if_pos h2)⟩
      · exact .inl ((if_neg h1).trans (if_neg h2))
  have alone : ∀ b, two b ≠ none → b = a ∨ b = sysModules := fun b h => by
    by_cases h1 : b = a ∧ K.lookup a = none
    · exact .inl h1.1
    · by_cases h2 : b = sysModules
      · exact .inr h2
      · exact absurd ((if_neg h1).trans (if_neg h2)) h
  have away : ∀ b, two b ≠ none → K.lookup b = none := fun b h => by
    by_cases h1 : b = a ∧ K.lookup a = none
    · rw [h1.1]
      exact h1.2
    · by_cases h2 : b = sysModules
      · rw [h2]
        exact sysK
      · exact absurd ((if_neg h1).trans (if_neg h2)) h
  have held : HOk P w two s.heap := fun b u z => by
    by_cases h1 : b = a ∧ K.lookup a = none
    · have e : two b = _ := if_pos h1
      rw [e] at z
      obtain rfl := Option.some.inj z
      rw [h1.1]
      exact ⟨obj, by rw [List.length_map]; exact small, vs, _, rel, obj⟩
    · by_cases h2 : b = sysModules
      · have e : two b = _ := (if_neg h1).trans (if_pos h2)
        rw [e] at z
        obtain rfl := Option.some.inj z
        rw [h2]
        exact ⟨hob, hob, ⟨_, hob⟩, fun h1 h2 e k => k _ e⟩
      · have e : two b = _ := (if_neg h1).trans (if_neg h2)
        rw [e] at z
        cases z
  have sys : Sys K two := by
    by_cases h1 : sysModules = a ∧ K.lookup a = none
    · exact ⟨_, _, if_pos h1⟩
    · exact ⟨_, _, (if_neg h1).trans (if_pos rfl)⟩
  refine endS_from inK mains blts boot noLim gens obj room goesF bind two only held alone away (want two sys ?_)
  cases hk : K.lookup a with
  | some o =>
    have e := inK a o hk
    rw [obj] at e
    obtain rfl := Option.some.inj e
    exact Or.inr ⟨_, vs.toArray, _, hk, rfl, rfl, rfl, by rw [List.size_toArray, numbs.length]; exact small, by simpa using rel⟩
  | none => exact .inl (.inr ⟨_, if_pos ⟨rfl, hk⟩⟩)
end
theorem walk_S {l : PySem.W.OpenLaw} {n k : Nat} {q : Program} {loose : List Str} {XP : (Str → Option Value) → Heap → Prop} {YP : World → Heap → Prop} {d : DefRec} {K : Params → PySem.W.Frag} {sp : PySem.W.Frag → Sp} {x : Str}
    (hn : l.most = some n) (small : n ≤ sizeLine) (plain : d.params.defaults = []) (room : Room k callerA) (hq : importsNone q = true) (hY : ∀ (w : World) (h : Heap), YP w h → (K w.params).In h)
    (F : ∀ (w : World) (mg : Str → Option Value) (fa : Addr) (h : Heap), (K w.params).In h → h.Ns mainGlobals mg → mg d.name = some (.ref fa) →
      ∃ fd : FuncData, (K w.params).lookup sysModules = none ∧ (∀ (s : Shared) (u : Value), BindsTo s fd ⟨[u], []⟩ [(x, u)]) ∧ ∀ base : Heap, (K w.params).In base → base.Ns mainGlobals mg → FnG l.prog w (K w.params) mg base k fa fd [x] (sp (K w.params)))
    (want : ∀ (K : PySem.W.Frag) (H : Hp) (a : Addr) (ns : List Int), ns.length ≤ n → Sys K H → SqL K H a (ns.map V.int) → sp K [.ref a] H (fun v _ => v = .bl true) E0) :
    PySem.W.WalkO q loose XP YP l.row.toRowW d [] (fun f vs => PySem.call f vs) := by
  refine Att.attach_call hn plain fun w s0 s1 mg mb fa o pm cd doc a vs ns ground told ho hd hcd hmg obj numbs many gens => ?_
  have inK := hY w _ told
  obtain ⟨fd, sysK, bind, goesF⟩ := F w mg fa _ inK ground.T.g hmg
  exact endS_call inK ground.T.g ground.T.b ground.T.builtins ground.T.nolimit gens obj numbs (Nat.le_trans many small) room sysK (ground.T.seer hq) goesF bind fun H S held => want (K w.params) H a ns many S held
end LG
/-! ### enumerate of a tuple, from 0 or from a count given by its name -/
namespace LG
open PySem PySem.Spec PyProof.Rows L2
/-- the tuple at a as it stands at each turn, each item in a new pair, counted from c -/
def IteT (K : PySem.W.Frag) (a : Addr) (c : Nat) : It :=
  ⟨fun i H => ∃ (xs : List V) (x : V), SqT K H a xs ∧ xs[i]? = some x, fun i H v H' => ∃ T x, v = .ref T ∧ H T = none ∧ H' = upd H T (.tup [.int ((c + i : Nat) : Int), x]) ∧ ∀ xs, SqT K H a xs → xs[i]? = some x, fun i H => ∃ xs : List V, SqT K H a xs ∧ xs.length = i⟩
theorem tuple_apart {h : Heap} {it a b : Addr} {i : Nat} {items : Array Value} (x : h.IsTupleIter it b i) (y : h.IsTuple a items) : a ≠ it := by
  rintro rfl
  obtain ⟨o, e, c, _⟩ := x
  obtain ⟨o2, e2, c2, _⟩ := y
  rw [e] at e2
  cases e2
  rw [c] at c2
  simp at c2
theorem enum_apart {h : Heap} {it a e : Addr} {i : Int} {old : Value} {items : Array Value} (x : IsEnum h e it i old) (y : h.IsTuple a items) : e ≠ a := by
  rintro rfl
  obtain ⟨o2, e2, c2, _⟩ := y
  rw [x] at e2
  cases e2
  simp at c2
theorem turn_enumT {P : Program} {w : World} {K : PySem.W.Frag} {elts : List Expr} {kk : Nat} {tpos : Pos} (a e it : Addr) (c : Nat) :
    Turn P w K (.Tuple elts kk tpos) (IteT K a c) [e, it] e (fun i h => (∃ old, IsEnum h e it ((c + i : Nat) : Int) old) ∧ h.IsTupleIter it a i ∧ e ≠ it) where
  mem := by simp
  obj := fun i h st b hb => by
    obtain ⟨⟨old, he⟩, ⟨o, ho, hc, hd⟩, _⟩ := st
    rcases List.mem_cons.mp hb with z | z
    · rw [z]; exact ⟨_, he, fun v q => nomatch q⟩
    · rw [List.mem_singleton.mp z]; exact ⟨o, ho, fun v q => by rw [hd] at q; cases q⟩
  keep := fun i h h' st k => let ⟨⟨old, he⟩, hi, hne⟩ := st; ⟨⟨old, k e (by simp) _ he⟩, hi.at fun o q => k it (by simp) o q, hne⟩
  item := by
    intro X hP hw hK hc i pins s σ H E I hf st hg
    subst hP hw hK
    obtain ⟨⟨old, he⟩, hit, hne⟩ := st
    obtain ⟨xs, x, hq, hx⟩ := hg
    obtain ⟨its, rv, p, hz⟩ := I.tuple hq
    obtain ⟨u, hu, ru⟩ := rv.get hx
    have hel : e < s.heap.objs.size := Heap.lt_size he
    have hil : it < s.heap.objs.size := by obtain ⟨_, q, _⟩ := hit; exact Heap.lt_size q
    have na := tuple_apart hit p
    have ne' := enum_apart he p
    have hh : X.A.in1.handled = none := I.ok.hd hc
    have il : i < its.toArray.size := by
      have := (List.getElem?_eq_some_iff.mp hu).1
      simpa using this
    refine wpAny_pyNext_enum_itemC (Draws.tuple (prog := X.prog) (w := X.w) hh it a na its.toArray) he ⟨hit, p⟩ il hne (by simp [hne, ne']) fun y h' tk hy ho st' hT hsz hk => ?_
    obtain ⟨hit', _⟩ := st'
    have hy : its.toArray[i]? = some y := hy
    obtain rfl : y = u := by
      have q : its.toArray[i]? = some u := by simpa using hu
      rw [hy] at q
      exact Option.some.inj q
    refine ⟨_, rfl, wpAny_letOwnedTupleGo_enum (s := { s with heap := h', toks := tk + 1 }) ho fun h'' he' sb => ?_⟩
    have hT2 := (sb.2 _ (Nat.ne_of_gt hel)).trans hT
    have new : ObjOk X.prog X.w (upd H s.heap.objs.size (.tup [.int ((c + i : Nat) : Int), x])) h'' s.heap.objs.size (.tup [.int ((c + i : Nat) : Int), x]) :=
      ⟨by show 2 ≤ sizeLine; decide, _, .cons ⟨tk, rfl⟩ (.cons ru .nil), ⟨_, hT2, rfl, _, rfl⟩⟩
    have I1 : Inv X pins σ (upd H s.heap.objs.size (.tup [.int ((c + i : Nat) : Int), x])) { s with heap := h'', toks := tk + 1 } :=
      I.turnedNew (ch := [e, it]) (fun b ob hb q => (sb.2 b (fun z => hb (by simp [z]))).trans (hk b ob (fun z => hb (by simp [z])) (fun z => hb (by simp [z])) q)) hf (Nat.le_refl _) new
    refine ⟨.ref s.heap.objs.size, _, I1, rfl, ⟨_, x, rfl, I.hok.fresh (Nat.le_refl _), rfl, fun ys hy => by rw [I.tuple_inj hy hq]; exact hx⟩, ⟨⟨y, ?_⟩, hit'.at fun o q => (sb.2 it (Ne.symm hne)).trans q, hne⟩, fun b hb => ?_⟩
    · rw [show ((c + (i + 1) : Nat) : Int) = ((c + i : Nat) : Int) + 1 by omega]
      exact he'
    · have hb' : b < s.heap.objs.size := by
        rcases List.mem_cons.mp hb with z | z
        · rw [z]; exact hel
        · rw [List.mem_singleton.mp z]; exact hil
      rw [upd_ne (Nat.ne_of_lt hb')]
      exact (hf b hb).1
  done := by
    intro X hP hw hK hc i pins s σ H E I hf st hg
    subst hP hw hK
    obtain ⟨⟨old, he⟩, hit, hne⟩ := st
    obtain ⟨xs, hq, hx⟩ := hg
    obtain ⟨its, rv, p, hz⟩ := I.tuple hq
    obtain ⟨f0, f1, f2, f3, f4, f5⟩ := hf it (by simp)
    have hl := rv.length
    have hh : X.A.in1.handled = none := I.ok.hd hc
    have na := tuple_apart hit p
    have ei : i = its.toArray.size := by simp; omega
    refine wpAny_pyNext_enum_endD (Draws.tuple (prog := X.prog) (w := X.w) hh it a na its.toArray) he ⟨by rw [← ei]; exact hit, p⟩ fun h' eb => ⟨rfl, I.turned (t' := s.toks) (fun b o hb q => eb b o hb q) f0 f1 f3 f4 f5⟩
  self := fun A i s Q E st h => let ⟨⟨_, he⟩, _⟩ := st; wpAny_pyIter_enum he h
set_option maxHeartbeats 1000000 in
theorem meets_enumT {v : Value} {o : Obj} {H : Heap → Prop} (B : Begins v o H) :
    Meets (Builtin.«enumerate.__new__» ⟨[.type "enumerate", v], []⟩) (fun _ R s => H s.heap ∧
      R (.ok (.ret (.ref (s.heap.push o).objs.size))) { s with heap := (s.heap.push o).push { cls := .type "enumerate", data := .fields #[.none, .bool false, .ref s.heap.objs.size, rawInt 0, .none, .none] } }) :=
  .of_wp fun prog w A R s h => by
    obtain ⟨hp, g, d, tk, os⟩ := s
    obtain ⟨h1, h⟩ := h
    have hsub := sub_enumerate
    have q1 : ∀ {A' : Around} {E : Value → Shared → Prop} {Q : Value → Shared → Prop}, Q (.ref hp.objs.size) ⟨hp.push o, g, d, tk, os⟩ → wpAny (model prog w) A' (pyIter v) Q E ⟨hp, g, d, tk, os⟩ :=
      fun q => B.iter prog w _ _ ⟨hp, g, d, tk, os⟩ _ h1 q
    wp_walk using q1
    refine wpAny_stack_any fun st => wpAny_pure ?_
    split
    · rename_i c _ _ _ _ _
      cases (c == Value.type "enumerate") <;> (wp_walk using q1; exact ⟨_, rfl, h⟩)
    · wp_walk using q1
      exact ⟨_, rfl, h⟩
theorem enum_beginsT {M0 : Program} {w : World} {A : Around} {E : Value → Shared → Prop} {s : Shared} {v : Value} {o : Obj} {H : Heap → Prop} {Q : Value → Shared → Prop} (B : Begins v o H) (h1 : H s.heap)
    (h : ∀ h', IsEnum h' (s.heap.objs.size + 1) s.heap.objs.size 0 .none → h'.get? s.heap.objs.size = some o → h'.objs.size = s.heap.objs.size + 2 →
      (∀ b o, s.heap.get? b = some o → h'.get? b = some o) → Q (.ref (s.heap.objs.size + 1)) { s with heap := h' }) :
    wpAny (model M0 w) A (call (.type "enumerate") [v]) Q E s := by
  refine callType_new F.called_enumerate (by decide) (F.typeCall_enumerate_1 _) (F.newCall_enumerate_1 _) (fun obj => F.args_object_init_2 obj _) F.entry_enumerate_new (meets_enumT B) ⟨h1, ?_⟩
  have hz : (s.heap.push o).objs.size = s.heap.objs.size + 1 := Heap.size_push ..
  show _ ∧ _
  rw [hz]
  have he := Heap.get?_push_size (s.heap.push o) (o := { cls := .type "enumerate", data := .fields #[.none, .bool false, .ref s.heap.objs.size, rawInt 0, .none, .none] }) rfl
  rw [hz] at he
  exact ⟨⟨_, he, rfl⟩, h _ he (Heap.get?_push_of_some _ (Heap.get?_push_size _ B.free)) (by rw [Heap.size_push, hz]) fun b o x => Heap.get?_push_of_some _ (Heap.get?_push_of_some _ x)⟩
def iEnT (K : PySem.W.Frag) (ta : TA) : TI := fun σ H R => ta σ H fun vs H1 => ∃ a xs, vs = [.ref a] ∧ SqT K H1 a xs ∧ R (IteT K a 0) H1
def iEnTS (K : PySem.W.Frag) (ta tk : TA) : TI := fun σ H R => ta σ H fun vs H1 => tk σ H1 fun zs H2 => ∃ a xs c, vs = [.ref a] ∧ zs = [.int ((c : Nat) : Int)] ∧ c ≤ 1000 ∧ SqT K H2 a xs ∧ R (IteT K a c) H2
section
variable {X : Cx} {e : Expr} {ta tk : TA} {p pos tpos : Pos} {elts : List Expr} {kk : Nat} {kws : List Keyword}
theorem pi_enT (hg : Gl X "enumerate") (hm : X.mg "enumerate" = none) (ha : PA X [e] ta) (hs : starEach [e] X.env = [(false, eval e X.env)] := by rfl) :
    PI X (.Tuple elts kk tpos) (.Call (.Name "enumerate" p) [e] [] pos) (iEnT X.K ta) := by
  refine ⟨fun pins s σ H R I h => ?_⟩
  refine Call_ (ld_blt I hg hm boot_enumerate (PyProof.Rows.callWith_type1 (thn (ha.run pos pins s σ H _ I h) fun us s1 ⟨vs, H1, I1, r1, q1⟩ => ?_) hs rfl))
  obtain ⟨a, xs, rfl, hq, q⟩ := q1
  rw [Vals.ref1 r1]
  obtain ⟨its, rv, p', hz⟩ := I1.tuple hq
  refine enum_beginsT (begins_tuple a its.toArray) p' fun h' he hit hsz hk => wpAny_pyIter_enum he ?_
  have I2 : Inv X pins σ H1 { s1 with heap := h' } := I1.kept (t' := s1.toks) hk
  refine ⟨s1.heap.objs.size + 1, [s1.heap.objs.size + 1, s1.heap.objs.size], _, _, H1, rfl, I2, turn_enumT a (s1.heap.objs.size + 1) s1.heap.objs.size 0, ⟨⟨.none, he⟩, ⟨_, hit, rfl, rfl⟩, Nat.succ_ne_self _⟩, fun b hb => ?_, q⟩
  have hle : s1.heap.objs.size ≤ b := by
    rcases List.mem_cons.mp hb with z | z
    · rw [z]; exact Nat.le_add_right _ _
    · rw [List.mem_singleton.mp z]; exact Nat.le_refl _
  exact I1.fpOk hle (I1.hok.fresh hle)
theorem pi_enTS (hg : Gl X "enumerate") (hm : X.mg "enumerate" = none) (ha : PA X [e] ta) (hkw : PK X kws tk) (hall : (backToKw pos (keywordEach kws X.env)).all (·.1.isSome) = true := by rfl)
    (hks : (backToKw pos (keywordEach kws X.env)).filterMap (·.1) = [Str.ofString "start"] := by rfl) (he : starEach [e] X.env = (false, eval e X.env) :: starEach [] X.env := by rfl)
    (hpl : ((backTo pos (starEach [e] X.env)).any (·.1) || (backToKw pos (keywordEach kws X.env)).any (·.1.isNone)) = false := by rfl) :
    PI X (.Tuple elts kk tpos) (.Call (.Name "enumerate" p) [e] kws pos) (iEnTS X.K ta tk) := by
  refine ⟨fun pins s σ H R I h => ?_⟩
  refine wpAny_Call_Name_kw (ld_blt I hg hm boot_enumerate ?_)
  refine PySem.W.callWith_of (P := fun _ => True) hpl (fun _ _ => ⟨.machine, .inr (.inl rfl), .now⟩) (evalArgs_kw2 hall (thn (ha.run pos pins s σ H _ I h) fun us s1 ⟨vs, H1, I1, r, q⟩ => ?_) he)
  refine thn (hkw.run pos pins s1 σ H1 _ I1 q) fun ws s2 ⟨zs, H2, I2, rz, q2⟩ => ⟨trivial, ?_⟩
  rw [hks]
  obtain ⟨a, xs, c, rfl, rfl, few, hq, q⟩ := q2
  rw [Vals.ref1 r]
  cases rz with
  | cons r0 rr =>
  cases rr
  obtain ⟨t, rfl⟩ := r0
  obtain ⟨its, rv, p', hz⟩ := I2.tuple hq
  refine enum_begins_start (begins_tuple a its.toArray) p' (by omega) (by omega) fun h' he hit hsz hk => wpAny_pyIter_enum he ?_
  have I3 : Inv X pins σ H2 { s2 with heap := h' } := I2.kept (t' := s2.toks) hk
  refine ⟨s2.heap.objs.size + 1, [s2.heap.objs.size + 1, s2.heap.objs.size], _, _, H2, rfl, I3, turn_enumT a (s2.heap.objs.size + 1) s2.heap.objs.size c, ⟨⟨.none, he⟩, ⟨_, hit, rfl, rfl⟩, Nat.succ_ne_self _⟩, fun b hb => ?_, q⟩
  have hle : s2.heap.objs.size ≤ b := by
    rcases List.mem_cons.mp hb with z | z
    · rw [z]; exact Nat.le_add_right _ _
    · rw [List.mem_singleton.mp z]; exact Nat.le_refl _
  exact I2.fpOk hle (I2.hok.fresh hle)
end
end LG
/-! ### steps of a reading, one at a time -/
namespace LG
open PySem PySem.Spec PyProof.Rows L2
section
variable {σ : L2.St} {H : Hp} {Q : VK} {K : PySem.W.Frag} {n b c : L2.St → Hp → Prop} {r : VK}
theorem st_seq {t u : TS} (h : t ⟨u ⟨n, r, b, c⟩, r, b, c⟩ σ H) : tSeq t u ⟨n, r, b, c⟩ σ H := h
theorem st_next (h : n σ H) : tNext ⟨n, r, b, c⟩ σ H := h
theorem st_break (h : b σ H) : tBreak ⟨n, r, b, c⟩ σ H := h
theorem st_cont (h : c σ H) : tCont ⟨n, r, b, c⟩ σ H := h
theorem st_drop {te : TE} (h : te σ H fun _ H1 => n σ H1) : tDrop te ⟨n, r, b, c⟩ σ H := h
theorem st_ret {te : TE} (h : te σ H r) : tRet te ⟨n, r, b, c⟩ σ H := h
theorem st_retN (h : r .non H) : tRetN ⟨n, r, b, c⟩ σ H := h
theorem st_if {tc : TT} {t u : TS} (h : tc σ H fun k H1 => if k = true then t ⟨n, r, b, c⟩ σ H1 else u ⟨n, r, b, c⟩ σ H1) : tIfS tc t u ⟨n, r, b, c⟩ σ H := h
theorem st_asg {te : TE} {g : TG} (h : te σ H fun x H1 => g x σ H1 n) : tAsg te g ⟨n, r, b, c⟩ σ H := h
theorem st_name {i : Nat} {v : V} {q : L2.St → Hp → Prop} (h : q (σ.set i (some v)) H) : gName i v σ H q := h
theorem st_gnil {q : L2.St → Hp → Prop} (h : q σ H) : gNil [] σ H q := ⟨rfl, h⟩
theorem st_gcons {t : TG} {u : TGs} {v : V} {vs : List V} {q : L2.St → Hp → Prop} (h : t v σ H fun σ' H' => u vs σ' H' q) : gCons t u (v :: vs) σ H q := ⟨v, vs, rfl, h⟩
theorem st_gtup {m : Nat} {t : TGs} {a : Addr} {xs : List V} {q : L2.St → Hp → Prop} (hx : SqT K H a xs) (hl : xs.length = m) (h : t xs σ H q) : gTup K m t (.ref a) σ H q := ⟨a, xs, rfl, hx, hl, h⟩
theorem st_gsub {to ti : TE} {t : TSet} {v : V} {q : L2.St → Hp → Prop} (h : to σ H fun o H1 => ti σ H1 fun i H2 => t o i v H2 fun H3 => q σ H3) : gSub to ti t v σ H q := h
theorem st_aug {i : Nat} {te : TE} {ti : TIp} {x : V} (hx : σ[i]? = some (some x)) (h : te σ H fun y H1 => ti x y H1 fun z H2 => n (σ.set i (some z)) H2) : tAug i te ti ⟨n, r, b, c⟩ σ H := ⟨x, hx, h⟩
theorem st_var {i : Nat} {v : V} (hx : σ[i]? = some (some v)) (h : Q v H) : tVar i σ H Q := ⟨v, hx, h⟩
theorem st_c {v : V} (h : Q v H) : tC v σ H Q := h
theorem st_op {f : R2} {ta tb : TE} (h : ta σ H fun x H1 => tb σ H1 fun y H2 => f x y H2 Q) : tOp f ta tb σ H Q := h
theorem st_un {f : V → Hp → VK → Prop} {ta : TE} (h : ta σ H fun x H1 => f x H1 Q) : tUn f ta σ H Q := h
theorem st_test {t : TE} {q : Bool → Hp → Prop} (h : t σ H fun x H' => ∃ k, x = .bl k ∧ q k H') : tTest t σ H q := h
theorem st_B {t : TE} {q : Bool → Hp → Prop} (h : t σ H fun x H' => ∃ k, x = .bl k ∧ q k H') : tB t σ H q := h
theorem st_ex {k : Bool} {p : Bool → Prop} (h : p k) : ∃ k', V.bl k = .bl k' ∧ p k' := ⟨k, rfl, h⟩
theorem st_and {t u : TT} {q : Bool → Hp → Prop} (h : t σ H fun k H1 => if k = true then u σ H1 q else q false H1) : tAnd t u σ H q := h
theorem st_or {t u : TT} {q : Bool → Hp → Prop} (h : t σ H fun k H1 => if k = true then q true H1 else u σ H1 q) : tOr t u σ H q := h
theorem st_not {t : TT} {q : Bool → Hp → Prop} (h : t σ H fun k H1 => q (!k) H1) : tNot t σ H q := h
theorem st_andV {ta tb : TE} (h : ta σ H fun x H1 => ∃ k, x = .bl k ∧ if k = true then tb σ H1 Q else Q (.bl false) H1) : tAndV ta tb σ H Q := h
theorem st_orV {ta tb : TE} (h : ta σ H fun x H1 => ∃ k, x = .bl k ∧ if k = true then Q (.bl true) H1 else tb σ H1 Q) : tOrV ta tb σ H Q := h
theorem st_notV {ta : TE} (h : ta σ H fun x H1 => ∃ k, x = .bl k ∧ Q (.bl (!k)) H1) : tNotV ta σ H Q := h
theorem st_ife {t : TT} {ta tb : TE} (h : t σ H fun k H1 => if k = true then ta σ H1 Q else tb σ H1 Q) : L2.tIf t ta tb σ H Q := h
theorem st_isN {ta : TE} (h : ta σ H fun x H1 => Q (.bl (decide (x = .non))) H1) : tIsN ta σ H Q := h
theorem st_notN {ta : TE} (h : ta σ H fun x H1 => Q (.bl (!decide (x = .non))) H1) : tNotN ta σ H Q := h
theorem st_chain {f g : R2} {ta tb tc : TE} (h : ta σ H fun x H1 => tb σ H1 fun y H2 => f x y H2 fun z H3 => ∃ k, z = .bl k ∧ (if k = true then tc σ H3 fun w' H4 => g y w' H4 Q else Q (.bl false) H3)) : tChain f g ta tb tc σ H Q := h
theorem st_tup {t : TA} (h : t σ H fun xs H1 => xs.length ≤ sizeLine ∧ ∀ p, H1 p = none → Q (.ref p) (upd H1 p (.tup xs))) : tTup t σ H Q := h
theorem st_lst {t : TA} (h : t σ H fun xs H1 => xs.length ≤ sizeLine ∧ ∀ p, H1 p = none → Q (.ref p) (upd H1 p (.lst xs))) : tLst t σ H Q := h
theorem st_cons {ta : TE} {tr : TA} {q : List V → Hp → Prop} (h : ta σ H fun x H1 => tr σ H1 fun xs H2 => q (x :: xs) H2) : tCons ta tr σ H q := h
theorem st_nil {q : List V → Hp → Prop} (h : q [] H) : tNil σ H q := h
theorem st_CB {f : List V → Hp → VK → Prop} {t : TA} (h : t σ H fun vs H1 => f vs H1 Q) : tCB f t σ H Q := h
theorem st_call {sp : Sp} {dvs : List V} {E : XK} {t : TA} (h : t σ H fun vs H1 => sp (vs ++ dvs) H1 Q E) : tCall sp dvs E t σ H Q := h
theorem st_BM {T : String} {f : V → List V → Hp → VK → Prop} {to : TE} {t : TA} (h : to σ H fun x H1 => tyV K T x H1 ∧ t σ H1 fun xs H2 => f x xs H2 Q) : tBM K T f to t σ H Q := h
theorem st_BM0 {T : String} {f : V → List V → Hp → VK → Prop} {to : TE} (h : to σ H fun x H1 => tyV K T x H1 ∧ f x [] H1 Q) : tBM0 K T f to σ H Q := h
theorem st_sl {f : V → Option Int → Option Int → Hp → VK → Prop} {te : TE} {tl th : TO} (h : te σ H fun x H1 => tl σ H1 fun l H2 => th σ H2 fun u H3 => f x l u H3 Q) : tSl f te tl th σ H Q := h
theorem st_noPart {q : Option Int → Hp → Prop} (h : q none H) : tNoPart σ H q := h
theorem st_part {t : TE} {q : Option Int → Hp → Prop} (h : t σ H fun x H1 => ∃ i, x = .int i ∧ q (some i) H1) : tPart t σ H q := h
theorem st_exi {i : Int} {p : Int → Prop} (h : p i) : ∃ j, V.int i = .int j ∧ p j := ⟨i, rfl, h⟩
theorem st_I0 {g : Int → Int → V} {i j : Int} (h : Q (g i j) H) : rI0 g (.int i) (.int j) H Q := ⟨i, j, rfl, rfl, h⟩
theorem st_I {C : Int → Int → Prop} {g : Int → Int → V} {i j : Int} (hc : C i j) (h : Q (g i j) H) : rI C g (.int i) (.int j) H Q := ⟨i, j, rfl, rfl, hc, h⟩
theorem st_add {i j : Int} (h : Q (.int (i + j)) H) : L2.rAdd (.int i) (.int j) H Q := ⟨i, j, rfl, rfl, h⟩
theorem st_sub {i j : Int} (h : Q (.int (i - j)) H) : L2.rSub (.int i) (.int j) H Q := ⟨i, j, rfl, rfl, h⟩
theorem st_U {g : Int → V} {i : Int} (h : Q (g i) H) : rU g (.int i) H Q := ⟨i, rfl, h⟩
theorem st_eq {x y : V} (hs : scal x y = true) (h : Q (.bl (decide (x = y))) H) : rEq x y H Q := ⟨hs, h⟩
theorem st_ne {x y : V} (hs : scal x y = true) (h : Q (.bl (!decide (x = y))) H) : rNe x y H Q := ⟨hs, h⟩
theorem st_list {tl : TE} {R : It → Hp → Prop} (h : tl σ H fun x H1 => ∃ a, x = .ref a ∧ (∃ xs, SqL K H1 a xs) ∧ R (Itl K a) H1) : iList K tl σ H R := h
theorem st_itup {tl : TE} {R : It → Hp → Prop} (h : tl σ H fun x H1 => ∃ a, x = .ref a ∧ (∃ xs, SqT K H1 a xs) ∧ R (Itt K a) H1) : iTup K tl σ H R := h
theorem st_rng1 {ta : TA} {R : It → Hp → Prop} (h : ta σ H fun vs H1 => ∃ j : Int, vs = [.int j] ∧ -(2 ^ 62) ≤ j ∧ j < 2 ^ 62 ∧ R (Itr 0 j.toNat) H1) : iRng1 ta σ H R := h
theorem st_rng2 {ta : TA} {R : It → Hp → Prop} (h : ta σ H fun vs H1 => ∃ i j : Int, vs = [.int i, .int j] ∧ (-(2 ^ 62) ≤ i ∧ i < 2 ^ 62 ∧ -(2 ^ 62) ≤ j ∧ j < 2 ^ 62) ∧ R (Itr i (j - i).toNat) H1) : iRng2 ta σ H R := h
theorem st_lc {wi : TI} {g : TG} {tt : TT} {te : TE} {vs : List Nat} (h : wi σ H fun J H1 => ∀ D, H1 D = none → ∃ W : Nat → Nat → Hp → Prop, (∃ m, W 0 m (upd H1 D (.lst []))) ∧ ∀ i m H, W i m H →
    (J.stop i H ∧ Q (.ref D) H) ∨ (J.go i H ∧ ∃ Nx : Hp → Prop, (∀ H', Nx H' → ∃ m', m' < m ∧ W (i + 1) m' H') ∧ ∀ x H', J.yld i H x H' → g x (wipe σ vs) H' fun σ2 H2 => wipe σ2 vs = wipe σ vs ∧ tt σ2 H2 fun b H3 =>
      if b = true then te σ2 H3 fun y H4 => ∃ acc, H4 D = some (.lst acc) ∧ acc.length < sizeLine ∧ Nx (upd H4 D (.lst (acc ++ [y]))) else Nx H3)) : tLc wi g tt te vs σ H Q := h
theorem st_for {wi : TI} {g : TG} {tb : TS} (h : wi σ H fun J H1 => ∃ W : Nat → Nat → L2.St → Hp → Prop, (∃ m, W 0 m σ H1) ∧ ∀ i m σ H, W i m σ H →
    (J.stop i H ∧ n σ H) ∨ (J.go i H ∧ ∃ N : L2.St → Hp → Prop, (∀ σ' H', N σ' H' → ∃ m', m' < m ∧ W (i + 1) m' σ' H') ∧ ∀ x H', J.yld i H x H' → g x σ H' fun σ2 H2 => tb ⟨N, r, n, N⟩ σ2 H2)) : tFor wi g tb ⟨n, r, b, c⟩ σ H := h
theorem st_yes {q : Bool → Hp → Prop} (h : q true H) : tYes σ H q := h
theorem st_wipe {σ1 σ2 : L2.St} {vs : List Nat} {A : Prop} (e : wipe σ1 vs = wipe σ2 vs) (h : A) : wipe σ1 vs = wipe σ2 vs ∧ A := ⟨e, h⟩
theorem st_rj {j : Int} {R : Int → Prop} (h1 : -(2 ^ 62) ≤ j) (h2 : j < 2 ^ 62) (h : R j) : ∃ k : Int, [V.int j] = [.int k] ∧ -(2 ^ 62) ≤ k ∧ k < 2 ^ 62 ∧ R k := ⟨j, rfl, h1, h2, h⟩
theorem st_rb {j : Int} {A : Prop} (h1 : -(2 ^ 62) ≤ j) (h2 : j < 2 ^ 62) (h : A) : -(2 ^ 62) ≤ j ∧ j < 2 ^ 62 ∧ A := ⟨h1, h2, h⟩
theorem st_rij {i j : Int} {R : Int → Int → Prop} (h1 : -(2 ^ 62) ≤ i ∧ i < 2 ^ 62 ∧ -(2 ^ 62) ≤ j ∧ j < 2 ^ 62) (h : R i j) : ∃ k l : Int, [V.int i, V.int j] = [.int k, .int l] ∧ (-(2 ^ 62) ≤ k ∧ k < 2 ^ 62 ∧ -(2 ^ 62) ≤ l ∧ l < 2 ^ 62) ∧ R k l := ⟨i, j, rfl, h1, h⟩
theorem st_srcT {a : Addr} {xs : List V} {R : Addr → Prop} (hx : SqT K H a xs) (h : R a) : ∃ b, V.ref a = .ref b ∧ (∃ ys, SqT K H b ys) ∧ R b := ⟨a, rfl, ⟨xs, hx⟩, h⟩
theorem st_srcL {a : Addr} {xs : List V} {R : Addr → Prop} (hx : SqL K H a xs) (h : R a) : ∃ b, V.ref a = .ref b ∧ (∃ ys, SqL K H b ys) ∧ R b := ⟨a, rfl, ⟨xs, hx⟩, h⟩
theorem st_call0 {sp : Sp} {E : XK} {t : TA} (h : t σ H fun vs H1 => sp vs H1 Q E) : tCall sp [] E t σ H Q := by
  show t σ H fun vs H1 => sp (vs ++ []) H1 Q E
  simp only [List.append_nil]
  exact h
theorem st_int1 {i : Int} {P : Int → Prop} {R : Prop} (h : P i) : (∃ j, [V.int i] = [.int j] ∧ P j) ∨ R := .inl ⟨i, rfl, h⟩
theorem st_int1b {k : Bool} {P : Bool → Prop} {R : Prop} (h : P k) : R ∨ (∃ j, [V.bl k] = [.bl j] ∧ P j) := .inr ⟨k, rfl, h⟩
theorem st_ints {i : Int} {P : Int → Prop} (h : P i) : ∃ j, [V.int i] = [.int j] ∧ P j := ⟨i, rfl, h⟩
theorem st_ints2 {i j : Int} {P : Int → Int → Prop} (h : P i j) : ∃ k l, [V.int i, V.int j] = [.int k, .int l] ∧ P k l := ⟨i, j, rfl, h⟩
theorem st_lenL {a : Addr} {xs : List V} {P : List V → Prop} (hx : SqL K H a xs) (h : P xs) : ∃ p ys, [V.ref a] = [.ref p] ∧ (SqL K H p ys ∨ SqT K H p ys) ∧ P ys := ⟨a, xs, rfl, .inl hx, h⟩
theorem st_lenT {a : Addr} {xs : List V} {P : List V → Prop} (hx : SqT K H a xs) (h : P xs) : ∃ p ys, [V.ref a] = [.ref p] ∧ (SqL K H p ys ∨ SqT K H p ys) ∧ P ys := ⟨a, xs, rfl, .inr hx, h⟩
theorem st_tupL {a : Addr} {xs : List V} {P : List V → Prop} {R : List V → Addr → Prop} (hx : SqL K H a xs) (h : P xs) : ∃ p ys, [V.ref a] = [.ref p] ∧ ((SqL K H p ys ∧ P ys) ∨ (SqT K H p ys ∧ R ys p)) := ⟨a, xs, rfl, .inl ⟨hx, h⟩⟩
theorem st_tupT {a : Addr} {xs : List V} {P : List V → Prop} {R : List V → Addr → Prop} (hx : SqT K H a xs) (h : R xs a) : ∃ p ys, [V.ref a] = [.ref p] ∧ ((SqL K H p ys ∧ P ys) ∨ (SqT K H p ys ∧ R ys p)) := ⟨a, xs, rfl, .inr ⟨hx, h⟩⟩
/-- a test that is decided, or is not -/
theorem st_y {p A B : Prop} [Decidable p] (hp : p) (h : A) : if decide p = true then A else B := by
  rw [if_pos (decide_eq_true hp)]
  exact h
theorem st_n {p A B : Prop} [Decidable p] (hp : ¬ p) (h : B) : if decide p = true then A else B := by
  rw [decide_eq_false hp]
  exact iteF h
theorem st_ny {p A B : Prop} [Decidable p] (hp : ¬ p) (h : A) : if (!decide p) = true then A else B := by
  rw [decide_eq_false hp]
  exact iteT h
theorem st_nn {p A B : Prop} [Decidable p] (hp : p) (h : B) : if (!decide p) = true then A else B := iteNS hp h
theorem st_two {p A B : Prop} [Decidable p] (h1 : p → A) (h2 : ¬ p → B) : if decide p = true then A else B := ite2 (fun z => h1 (of_decide_eq_true z)) fun z => h2 fun q => z (decide_eq_true q)
theorem st_ntwo {p A B : Prop} [Decidable p] (h1 : ¬ p → A) (h2 : p → B) : if (!decide p) = true then A else B := by
  by_cases q : p
  · exact st_nn q (h2 q)
  · exact st_ny q (h1 q)
theorem st_bool {k : Bool} {A B : Prop} (h1 : k = true → A) (h2 : k = false → B) : if k = true then A else B := by
  cases k with
  | true => exact iteT (h1 rfl)
  | false => exact iteF (h2 rfl)
/-- items and lengths -/
theorem st_ixT {a : Addr} {xs : List V} {i : Int} {v : V} (hx : SqT K H a xs) (hi : atI xs i = some v) (h : Q v H) : rIxT K (.ref a) (.int i) H Q := ⟨a, xs, i, v, rfl, rfl, hx, hi, h⟩
theorem st_ixL {a : Addr} {xs : List V} {i : Int} {v : V} (hx : SqL K H a xs) (hi : atI xs i = some v) (h : Q v H) : rIxL K (.ref a) (.int i) H Q := ⟨a, xs, i, v, rfl, rfl, hx, hi, h⟩
theorem st_app {l : Addr} {xs : List V} {y : V} (hl : H l = some (.lst xs)) (room : xs.length < sizeLine) (h : Q .non (upd H l (.lst (xs ++ [y])))) : rAppend (.ref l) [y] H Q := ⟨l, xs, y, rfl, rfl, hl, room, h⟩
theorem st_tyL {l : Addr} {xs : List V} {A : Prop} (hl : H l = some (.lst xs)) (h : A) : tyV K "list" (.ref l) H ∧ A := ⟨.inl ⟨rfl, _, SqL.of hl⟩, h⟩
theorem st_setL {l : Addr} {xs : List V} {k : Int} {j : Nat} {v : V} {q : Hp → Prop} (hl : H l = some (.lst xs)) (hk : ixN xs.length k = some j) (h : q (upd H l (.lst (xs.set j v)))) : rSetL (.ref l) (.int k) v H q := ⟨l, xs, k, j, rfl, rfl, hl, hk, h⟩
theorem st_new {xs : List V} {A : Prop} (hz : xs.length ≤ sizeLine) (h : A) : xs.length ≤ sizeLine ∧ A := ⟨hz, h⟩
/-! loops, the body a variable -/
theorem fr_range {lo : Int} {m : Nat} {B : (L2.St → Hp → Prop) → V → L2.St → Hp → Prop} {Qn : L2.St → Hp → Prop} {σ0 : L2.St} {H0 : Hp} (Pv : Nat → L2.St → Hp → Prop) (h0 : Pv 0 σ0 H0)
    (hs : ∀ i σ H, i < m → Pv i σ H → B (Pv (i + 1)) (.int (lo + i)) σ H) (hd : ∀ σ H, Pv m σ H → Qn σ H) :
    ∃ W : Nat → Nat → L2.St → Hp → Prop, (∃ k, W 0 k σ0 H0) ∧ ∀ i k σ H, W i k σ H →
      ((Itr lo m).stop i H ∧ Qn σ H) ∨ ((Itr lo m).go i H ∧ ∃ N : L2.St → Hp → Prop, (∀ σ' H', N σ' H' → ∃ k', k' < k ∧ W (i + 1) k' σ' H') ∧ ∀ x H', (Itr lo m).yld i H x H' → B N x σ H') := by
  refine ⟨fun i k σ H => k = m - i ∧ i ≤ m ∧ Pv i σ H, ⟨m, rfl, Nat.zero_le _, h0⟩, ?_⟩
  rintro i k σ H ⟨rfl, hi, p⟩
  by_cases hlt : i < m
  · refine .inr ⟨hlt, Pv (i + 1), fun σ' H' p' => ⟨m - (i + 1), by omega, rfl, hlt, p'⟩, fun x H' y => ?_⟩
    obtain ⟨e, y⟩ := y
    subst e y
    exact hs i σ _ hlt p
  · have e : i = m := by omega
    subst e
    exact .inl ⟨Nat.le_refl _, hd σ H p⟩
theorem fr_tup {a : Addr} {xs : List V} {B : (L2.St → Hp → Prop) → V → L2.St → Hp → Prop} {Qn : L2.St → Hp → Prop} {σ0 : L2.St} {H0 : Hp} (Pv : Nat → L2.St → Hp → Prop) (h0 : Pv 0 σ0 H0) (hl : ∀ i σ H, i ≤ xs.length → Pv i σ H → SqT K H a xs)
    (hs : ∀ i x σ H, xs[i]? = some x → Pv i σ H → B (Pv (i + 1)) x σ H) (hd : ∀ σ H, Pv xs.length σ H → Qn σ H) :
    ∃ W : Nat → Nat → L2.St → Hp → Prop, (∃ k, W 0 k σ0 H0) ∧ ∀ i k σ H, W i k σ H →
      ((Itt K a).stop i H ∧ Qn σ H) ∨ ((Itt K a).go i H ∧ ∃ N : L2.St → Hp → Prop, (∀ σ' H', N σ' H' → ∃ k', k' < k ∧ W (i + 1) k' σ' H') ∧ ∀ x H', (Itt K a).yld i H x H' → B N x σ H') := by
  refine ⟨fun i k σ H => k = xs.length - i ∧ i ≤ xs.length ∧ Pv i σ H, ⟨xs.length, rfl, Nat.zero_le _, h0⟩, ?_⟩
  rintro i k σ H ⟨rfl, hi, p⟩
  have q := hl i σ H hi p
  by_cases hlt : i < xs.length
  · refine .inr ⟨⟨xs, xs[i], q, by simp [hlt]⟩, Pv (i + 1), fun σ' H' p' => ⟨xs.length - (i + 1), by omega, rfl, hlt, p'⟩, fun x H' y => ?_⟩
    obtain ⟨e, y⟩ := y
    subst e
    exact hs i x σ _ (y xs q) p
  · have e : i = xs.length := by omega
    subst e
    exact .inl ⟨⟨xs, q, Nat.le_refl _⟩, hd σ H p⟩
theorem fr_list {a : Addr} {xs : List V} {B : (L2.St → Hp → Prop) → V → L2.St → Hp → Prop} {Qn : L2.St → Hp → Prop} {σ0 : L2.St} {H0 : Hp} (Pv : Nat → L2.St → Hp → Prop) (h0 : Pv 0 σ0 H0) (hl : ∀ i σ H, i ≤ xs.length → Pv i σ H → SqL K H a xs)
    (hs : ∀ i x σ H, xs[i]? = some x → Pv i σ H → B (Pv (i + 1)) x σ H) (hd : ∀ σ H, Pv xs.length σ H → Qn σ H) :
    ∃ W : Nat → Nat → L2.St → Hp → Prop, (∃ k, W 0 k σ0 H0) ∧ ∀ i k σ H, W i k σ H →
      ((Itl K a).stop i H ∧ Qn σ H) ∨ ((Itl K a).go i H ∧ ∃ N : L2.St → Hp → Prop, (∀ σ' H', N σ' H' → ∃ k', k' < k ∧ W (i + 1) k' σ' H') ∧ ∀ x H', (Itl K a).yld i H x H' → B N x σ H') := by
  refine ⟨fun i k σ H => k = xs.length - i ∧ i ≤ xs.length ∧ Pv i σ H, ⟨xs.length, rfl, Nat.zero_le _, h0⟩, ?_⟩
  rintro i k σ H ⟨rfl, hi, p⟩
  have q := hl i σ H hi p
  by_cases hlt : i < xs.length
  · refine .inr ⟨⟨xs, xs[i], q, by simp [hlt]⟩, Pv (i + 1), fun σ' H' p' => ⟨xs.length - (i + 1), by omega, rfl, hlt, p'⟩, fun x H' y => ?_⟩
    obtain ⟨e, y⟩ := y
    subst e
    exact hs i x σ _ (y xs q) p
  · have e : i = xs.length := by omega
    subst e
    exact .inl ⟨⟨xs, q, Nat.le_refl _⟩, hd σ H p⟩
end
/-! new objects, the heap behind them unnamed -/
section
variable {X : Cx} {es : List Expr} {t : TA} {pos : Pos}
theorem pa_weak (h : PA X es t) : PA X es (fun σ H Q => ∃ R : List V → Hp → Prop, t σ H R ∧ ∀ xs H1, R xs H1 → Q xs H1) :=
  ⟨fun pos pins s σ H Q I ⟨R, hR, hi⟩ => thn (h.run pos pins s σ H R I hR) fun us s1 ⟨vs, H1, I1, r, q⟩ => ⟨vs, H1, I1, r, hi vs H1 q⟩⟩
theorem pe_less {e : Expr} {t u : TE} (h : PE X e t) (i : ∀ σ H Q, u σ H Q → t σ H Q) : PE X e u := ⟨fun pins s σ H Q I q => h.run pins s σ H Q I (i σ H Q q)⟩
def tTupN (t : TA) : TE := fun σ H Q => t σ H fun xs H1 => xs.length ≤ sizeLine ∧ ∀ p H', H1 p = none → Same H1 H' → H' p = some (.tup xs) → Q (.ref p) H'
def tLstN (t : TA) : TE := fun σ H Q => t σ H fun xs H1 => xs.length ≤ sizeLine ∧ ∀ p H', H1 p = none → Same H1 H' → H' p = some (.lst xs) → Q (.ref p) H'
theorem pe_tupN {x1} (h : PA X es t) : PE X (.Tuple es x1 pos) (tTupN t) :=
  pe_less (pe_tup (pa_weak h)) fun σ H Q q => ⟨_, q, fun xs H1 z => ⟨z.1, fun p hp => z.2 p _ hp (same_new hp _) upd_same⟩⟩
theorem pe_lstN (h : PA X es t) : PE X (.List es pos) (tLstN t) :=
  pe_less (pe_lst (pa_weak h)) fun σ H Q q => ⟨_, q, fun xs H1 z => ⟨z.1, fun p hp => z.2 p _ hp (same_new hp _) upd_same⟩⟩
def rTupN (K : PySem.W.Frag) : List V → Hp → VK → Prop := fun vs H Q => ∃ (a : Addr) (xs : List V), vs = [.ref a] ∧ SqL K H a xs ∧ ∀ p H', H p = none → Same H H' → H' p = some (.tup xs) → Q (.ref p) H'
theorem call_tupN : CallR X (.type "tuple") (rTupN X.K) := fun pins s σ H vs us Q J r want => by
  obtain ⟨a, xs, rfl, h1, q⟩ := want
  exact call_tuple_of pins s σ H _ us Q J r ⟨a, xs, rfl, .inl ⟨h1, fun l hl => q l _ hl (same_new hl _) upd_same⟩⟩
def rListN (K : PySem.W.Frag) : List V → Hp → VK → Prop := fun vs H Q => ∃ (a : Addr) (xs : List V), vs = [.ref a] ∧ (SqL K H a xs ∨ SqT K H a xs) ∧ ∀ p H', H p = none → Same H H' → H' p = some (.lst xs) → Q (.ref p) H'
theorem call_listN : CallR X (.type "list") (rListN X.K) := fun pins s σ H vs us Q J r want => by
  obtain ⟨a, xs, rfl, h1, q⟩ := want
  exact call_list_of pins s σ H _ us Q J r ⟨a, xs, rfl, h1, fun l hl => q l _ hl (same_new hl _) upd_same⟩
def rSlN (K : PySem.W.Frag) : V → Option Int → Option Int → Hp → VK → Prop := fun x lo hi H Q => ∃ a xs, x = .ref a ∧ SqL K H a xs ∧ ∀ p H', H p = none → Same H H' → H' p = some (.lst (cutV xs lo hi)) → Q (.ref p) H'
theorem sl_listN : SlR X (rSlN X.K) := by
  intro pins s σ H x v vl vu lo hi sl Q inv rx hs pl pu want
  obtain ⟨a, xs, rfl, hx, q⟩ := want
  exact sl_list pins s σ H _ v vl vu lo hi sl Q inv rx hs pl pu ⟨a, xs, rfl, hx, fun p hp => q p _ hp (same_new hp _) upd_same⟩
def rCatN : R2 := fun x y H Q => ∃ l b xs zs, x = .ref l ∧ y = .ref b ∧ H l = some (.lst xs) ∧ H b = some (.lst zs) ∧ xs.length + zs.length ≤ sizeLine ∧ ∀ p H', H p = none → Same H H' → H' p = some (.lst (xs ++ zs)) → Q (.ref p) H'
theorem op_catN : OpR X (binaryOp .Add) rCatN := by
  intro pins s σ H x y v u Q inv rx ry want
  obtain ⟨l, b, xs, zs, rfl, rfl, hl, hb, hz, q⟩ := want
  exact op_cat pins s σ H _ _ v u Q inv rx ry ⟨l, b, xs, zs, rfl, rfl, hl, hb, hz, fun p hp => q p _ hp (same_new hp _) upd_same⟩
end
section
variable {σ : L2.St} {H : Hp} {Q : VK} {K : PySem.W.Frag}
theorem st_tupN {t : TA} (h : t σ H fun xs H1 => xs.length ≤ sizeLine ∧ ∀ p H', H1 p = none → Same H1 H' → H' p = some (.tup xs) → Q (.ref p) H') : tTupN t σ H Q := h
theorem st_lstN {t : TA} (h : t σ H fun xs H1 => xs.length ≤ sizeLine ∧ ∀ p H', H1 p = none → Same H1 H' → H' p = some (.lst xs) → Q (.ref p) H') : tLstN t σ H Q := h
theorem st_room {xs : List V} {A : Prop} (hz : xs.length ≤ 100000) (h : A) : xs.length ≤ sizeLine ∧ A := ⟨Nat.le_trans hz (by decide), h⟩
theorem st_rTup {a : Addr} {xs : List V} (hx : SqL K H a xs) (h : ∀ p H', H p = none → Same H H' → H' p = some (.tup xs) → Q (.ref p) H') : rTupN K [.ref a] H Q := ⟨a, xs, rfl, hx, h⟩
theorem st_rList {a : Addr} {xs : List V} (hx : SqT K H a xs) (h : ∀ p H', H p = none → Same H H' → H' p = some (.lst xs) → Q (.ref p) H') : rListN K [.ref a] H Q := ⟨a, xs, rfl, .inr hx, h⟩
theorem st_rSl {a : Addr} {xs : List V} {lo hi : Option Int} (hx : SqL K H a xs) (h : ∀ p H', H p = none → Same H H' → H' p = some (.lst (cutV xs lo hi)) → Q (.ref p) H') : rSlN K (.ref a) lo hi H Q := ⟨a, xs, rfl, hx, h⟩
theorem st_rCat {a b : Addr} {xs zs : List V} (hx : H a = some (.lst xs)) (hy : H b = some (.lst zs)) (hz : xs.length + zs.length ≤ 100000) (h : ∀ p H', H p = none → Same H H' → H' p = some (.lst (xs ++ zs)) → Q (.ref p) H') : rCatN (.ref a) (.ref b) H Q := ⟨a, b, xs, zs, rfl, rfl, hx, hy, Nat.le_trans hz (by decide), h⟩
theorem st_rCut {a : Addr} {xs : List V} {lo hi : Option Int} (hx : SqT K H a xs) (h : ∀ p H', Same H H' → SqT K H' p (cutV xs lo hi) → Q (.ref p) H') : LG.rCut K (.ref a) lo hi H Q := ⟨a, xs, rfl, hx, h⟩
theorem st_rPlus {a b : Addr} {xs ys : List V} (hx : SqT K H a xs) (hy : SqT K H b ys) (hz : xs.length + ys.length ≤ 100000) (h : ∀ p H', Same H H' → SqT K H' p (xs ++ ys) → Q (.ref p) H') : LG.rPlus K (.ref a) (.ref b) H Q := ⟨a, b, xs, ys, rfl, rfl, hx, hy, Nat.le_trans hz (by decide), h⟩
end
/-! f(k = v, ..): a def that is called by names alone, in its parameters' order -/
section
def tCallK0 (sp : Sp) (E : XK) (tk : TA) : TE := fun σ H Q => tk σ H fun zs H2 => sp zs H2 Q E
structure HasK (P : Program) (w : World) (K : PySem.W.Frag) (mg : Str → Option Value) (base : Heap) (CX : CXT) (k : Nat) (x : Str) (ps : List Str) (sp : Sp) : Prop where
  ex : ∃ (f : Addr) (fd : FuncData), FnOk P w K mg base CX k f fd ps sp ∧ mg x = some (.ref f) ∧ PySem.W.keepIn K (.ref f) = true ∧ ∀ (s : Shared) (ws : List Value), ws.length = ps.length → BindsTo s fd ⟨[], ps.zip ws⟩ (ps.zip ws)
structure DefK (K : PySem.W.Frag) (mg : Str → Option Value) (x : Str) (st : Stmt) (ps : List Str) : Prop where
  ex : ∃ (f : Addr) (fd : FuncData), Fun K x x st f fd ∧ mg x = some (.ref f) ∧ ∀ (s : Shared) (ws : List Value), ws.length = ps.length → BindsTo s fd ⟨[], ps.zip ws⟩ (ps.zip ws)
theorem DefK.has {P : Program} {w : World} {K : PySem.W.Frag} {mg : Str → Option Value} {base : Heap} {CX : CXT} {k : Nat} {x : Str} {ps : List Str} {sp : Sp} {st : Stmt} (d : DefK K mg x st ps) (h : ∀ (f : Addr) (fd : FuncData), Fun K x x st f fd → FnOk P w K mg base CX k f fd ps sp) : HasK P w K mg base CX k x ps sp := by
  obtain ⟨f, fd, F, m, b⟩ := d.ex
  exact ⟨f, fd, h f fd F, m, F.kp, b⟩
variable {X : Cx} {CX : CXT} {k j : Nat} {ps : List Str} {sp : Sp} {x : Str} {p pos : Pos} {E : XK} {kws : List Keyword} {tk : TA}
theorem pcK0 (h : HasK X.prog X.w X.K X.mg X.base CX k x ps sp) (hr : Room j X.A) (hx : Passes CX X E) (hkw : PK X kws tk) (hg : Gl X x := by rfl) (hj : k ≤ j := by first | decide | omega)
    (hall : (backToKw pos (keywordEach kws X.env)).all (·.1.isSome) = true := by rfl) (hks : (backToKw pos (keywordEach kws X.env)).filterMap (·.1) = ps := by rfl) (hdb : (x == ("__debug__" : Str)) = false := by decide)
    (hpl : ((backTo pos (starEach [] X.env)).any (·.1) || (backToKw pos (keywordEach kws X.env)).any (·.1.isNone)) = false := by rfl) : PE X (.Call (.Name x p) [] kws pos) (tCallK0 sp E tk) := by
  obtain ⟨f, fd, F, hm, hk, hb⟩ := h.ex
  refine ⟨fun pins s σ H Q I h => ?_⟩
  refine wpAny_Call_Name_kw (ld_glob I hg hm ?_ hdb)
  refine PySem.W.callWith_KW0 (h₀ := X.base) I.ok.mod.kin hk hall ?_ hpl
  refine thn (hkw.run pos pins s σ H _ I h) fun ws s2 ⟨zs, H2, I2, rz, q2⟩ => ⟨I2.kIn, ?_⟩
  rw [hks]
  have hl : ws.length = ps.length := by rw [← rz.length]; exact F.len _ _ _ _ q2
  refine wpAny_call (codeAny_mono (F.run X.A X.stack s2 H2 ⟨[], ps.zip ws⟩ ws zs Q E (hr.mono hj) I2.env0 (hb s2 ws hl) rz q2) fun r s' hq => ?_)
  cases r with
  | error e => exact hx pins σ H2 s2 e s' I2 hq
  | ok fl =>
    cases fl with
    | ret u => exact I2.after hq
    | next => exact False.elim hq
    | brk => exact False.elim hq
    | cont => exact False.elim hq
theorem st_callK0 {σ : L2.St} {H : Hp} {Q : VK} {t : TA} (h : t σ H fun vs H1 => sp vs H1 Q E) : tCallK0 sp E t σ H Q := h
end
end LG
namespace LG
open PySem PySem.Spec PyProof.Rows L2
def rMulLN : R2 := fun x y H Q => ∃ l k xs, x = .ref l ∧ y = .int k ∧ H l = some (.lst xs) ∧ 0 ≤ k ∧ k ≤ 100000 ∧ xs.length * k.toNat ≤ 100000 ∧ ∀ p H', H p = none → Same H H' → H' p = some (.lst (List.replicate k.toNat xs).flatten) → Q (.ref p) H'
theorem op_mulLN {X : Cx} : OpR X (binaryOp .Mult) rMulLN := by
  intro pins s σ H x y v u Q I rx ry h
  obtain ⟨l, k, xs, rfl, rfl, hl, h1, h2, hz, q⟩ := h
  exact op_rep pins s σ H _ _ v u Q I rx ry ⟨l, k, xs, rfl, rfl, hl, by omega, by omega, Nat.le_trans hz (by decide), fun p hp => q p _ hp (same_new hp _) upd_same⟩
def rRepTN (K : PySem.W.Frag) : R2 := fun x y H Q => ∃ l k xs, x = .ref l ∧ y = .int k ∧ SqT K H l xs ∧ xs ≠ [] ∧ 2 ≤ k ∧ k ≤ 1000 ∧ xs.length ≤ 1000 ∧ ∀ p H', H p = none → Same H H' → H' p = some (.tup (List.replicate k.toNat xs).flatten) → Q (.ref p) H'
theorem op_repTN {X : Cx} : OpR X (binaryOp .Mult) (rRepTN X.K) := by
  intro pins s σ H x y v u Q I rx ry h
  obtain ⟨l, k, xs, rfl, rfl, hl, h0, h1, h2, hz, q⟩ := h
  exact op_repT pins s σ H _ _ v u Q I rx ry ⟨l, k, xs, rfl, rfl, hl, h0, h1, h2, hz, fun p hp => q p _ hp (same_new hp _) upd_same⟩
theorem st_strs {x y : Str} {P : Str → Str → Prop} (h : P x y) : ∃ a b, V.str x = .str a ∧ V.str y = .str b ∧ P a b := ⟨x, y, rfl, rfl, h⟩
section
variable {σ : L2.St} {H : Hp} {Q : VK} {K : PySem.W.Frag}
theorem st_rep {v : V} {d : PyData} (hd : Dp K H v d) (h1 : d.showable = true ∧ d.depth ≤ 60 ∧ d.shown.length ≤ sizeLine) (h : Q (.str d.shown) H) : LG.rRep K [v] H Q := ⟨v, d, rfl, hd, h1.1, h1.2.1, h1.2.2, h⟩
theorem st_en {ta : TA} {R : It → Hp → Prop} (h : ta σ H fun vs H1 => ∃ a xs, vs = [.ref a] ∧ SqT K H1 a xs ∧ R (IteT K a 0) H1) : iEnT K ta σ H R := h
theorem st_enS {ta tk : TA} {R : It → Hp → Prop} (h : ta σ H fun vs H1 => tk σ H1 fun zs H2 => ∃ a xs c, vs = [.ref a] ∧ zs = [.int ((c : Nat) : Int)] ∧ c ≤ 1000 ∧ SqT K H2 a xs ∧ R (IteT K a c) H2) : iEnTS K ta tk σ H R := h
theorem st_srcE {a : Addr} {xs : List V} {R : Addr → Prop} (hx : SqT K H a xs) (h : R a) : ∃ b ys, [V.ref a] = [.ref b] ∧ SqT K H b ys ∧ R b := ⟨a, xs, rfl, hx, h⟩
theorem st_srcE1 {a : Addr} {xs : List V} {R : Addr → Nat → Prop} (hx : SqT K H a xs) (h : R a 1) : ∃ b ys c, [V.ref a] = [.ref b] ∧ [V.int 1] = [.int ((c : Nat) : Int)] ∧ c ≤ 1000 ∧ SqT K H b ys ∧ R b c := ⟨a, xs, 1, rfl, rfl, by decide, hx, h⟩
theorem st_dget {td ty : TE} (h : td σ H fun x H1 => ty σ H1 fun y H2 => ∃ a v, x = .ref a ∧ DGet H2 a y (some v) ∧ Q v H2) : tDGet td ty σ H Q := h
theorem st_dc {wi : TI} {g : TG} {tt : TT} {tk tv : TE} {vs : List Nat} (h : wi σ H fun J H1 => ∀ D, H1 D = none → ∃ W : Nat → Nat → Hp → Prop, (∃ m, W 0 m (upd H1 D (.dK []))) ∧ ∀ i m H, W i m H →
    (J.stop i H ∧ Q (.ref D) H) ∨ (J.go i H ∧ ∃ Nx : Hp → Prop, (∀ H', Nx H' → ∃ m', m' < m ∧ W (i + 1) m' H') ∧ ∀ x H', J.yld i H x H' → g x (wipe σ vs) H' fun σ2 H2 => wipe σ2 vs = wipe σ vs ∧ tt σ2 H2 fun b H3 =>
      if b = true then tk σ2 H3 fun y H4 => tv σ2 H4 fun z H5 => ∃ kvs k, y = kV k ∧ H5 D = some (.dK kvs) ∧ kvs.length < sizeLine ∧ Nx (upd H5 D (.dK (putK kvs k z))) else Nx H3)) : tDc wi g tt tk tv vs σ H Q := h
theorem st_disp {trs : List (TE × TE)} (h : ∀ p, H p = none → tPairs trs σ (upd H p (.dK [])) fun ps H2 => H2 p = some (.dK []) ∧ ∃ kvs : List (Key × V), ps = kvs.map (fun kv => (kV kv.1, kv.2)) ∧ kvs.length ≤ 15 ∧ Q (.ref p) (upd H2 p (.dK (mergeK [] kvs)))) : tDisp trs σ H Q := h
theorem st_pn {q : List (V × V) → Hp → Prop} (h : q [] H) : tPairs [] σ H q := h
theorem st_pc {tk tv : TE} {r : List (TE × TE)} {q : List (V × V) → Hp → Prop} (h : tk σ H fun x H1 => tv σ H1 fun y H2 => tPairs r σ H2 fun ps H3 => q ((x, y) :: ps) H3) : tPairs ((tk, tv) :: r) σ H q := h
theorem fc_enum {a : Addr} {xs : List V} {c : Nat} {B : (Hp → Prop) → V → Hp → Prop} {Qn : Hp → Prop} {H0 : Hp} (Pv : Nat → Hp → Prop) (h0 : Pv 0 H0) (hl : ∀ i H, i ≤ xs.length → Pv i H → SqT K H a xs)
    (hs : ∀ i x H (T : Addr) (H' : Hp), xs[i]? = some x → Pv i H → H T = none → Same H H' → H' T = some (.tup [.int ((c + i : Nat) : Int), x]) → B (Pv (i + 1)) (.ref T) H') (hd : ∀ H, Pv xs.length H → Qn H) :
    ∃ W : Nat → Nat → Hp → Prop, (∃ k, W 0 k H0) ∧ ∀ i k H, W i k H →
      ((IteT K a c).stop i H ∧ Qn H) ∨ ((IteT K a c).go i H ∧ ∃ N : Hp → Prop, (∀ H', N H' → ∃ k', k' < k ∧ W (i + 1) k' H') ∧ ∀ x H', (IteT K a c).yld i H x H' → B N x H') := by
  refine ⟨fun i k H => k = xs.length - i ∧ i ≤ xs.length ∧ Pv i H, ⟨xs.length, rfl, Nat.zero_le _, h0⟩, ?_⟩
  rintro i k H ⟨rfl, hi, p⟩
  have q := hl i H hi p
  by_cases hlt : i < xs.length
  · refine .inr ⟨⟨xs, xs[i], q, by simp [hlt]⟩, Pv (i + 1), fun H' p' => ⟨xs.length - (i + 1), by omega, rfl, hlt, p'⟩, fun x H' y => ?_⟩
    obtain ⟨T, z, rfl, hT, rfl, y⟩ := y
    exact hs i z H T _ (y xs q) p hT (same_new hT _) upd_same
  · have e : i = xs.length := by omega
    subst e
    exact .inl ⟨⟨xs, q, rfl⟩, hd H p⟩
theorem fr_enum {a : Addr} {xs : List V} {c : Nat} {B : (L2.St → Hp → Prop) → V → L2.St → Hp → Prop} {Qn : L2.St → Hp → Prop} {σ0 : L2.St} {H0 : Hp} (Pv : Nat → L2.St → Hp → Prop) (h0 : Pv 0 σ0 H0) (hl : ∀ i σ H, i ≤ xs.length → Pv i σ H → SqT K H a xs)
    (hs : ∀ i x σ H (T : Addr) (H' : Hp), xs[i]? = some x → Pv i σ H → H T = none → Same H H' → H' T = some (.tup [.int ((c + i : Nat) : Int), x]) → B (Pv (i + 1)) (.ref T) σ H') (hd : ∀ σ H, Pv xs.length σ H → Qn σ H) :
    ∃ W : Nat → Nat → L2.St → Hp → Prop, (∃ k, W 0 k σ0 H0) ∧ ∀ i k σ H, W i k σ H →
      ((IteT K a c).stop i H ∧ Qn σ H) ∨ ((IteT K a c).go i H ∧ ∃ N : L2.St → Hp → Prop, (∀ σ' H', N σ' H' → ∃ k', k' < k ∧ W (i + 1) k' σ' H') ∧ ∀ x H', (IteT K a c).yld i H x H' → B N x σ H') := by
  refine ⟨fun i k σ H => k = xs.length - i ∧ i ≤ xs.length ∧ Pv i σ H, ⟨xs.length, rfl, Nat.zero_le _, h0⟩, ?_⟩
  rintro i k σ H ⟨rfl, hi, p⟩
  have q := hl i σ H hi p
  by_cases hlt : i < xs.length
  · refine .inr ⟨⟨xs, xs[i], q, by simp [hlt]⟩, Pv (i + 1), fun σ' H' p' => ⟨xs.length - (i + 1), by omega, rfl, hlt, p'⟩, fun x H' y => ?_⟩
    obtain ⟨T, z, rfl, hT, rfl, y⟩ := y
    exact hs i z σ H T _ (y xs q) p hT (same_new hT _) upd_same
  · have e : i = xs.length := by omega
    subst e
    exact .inl ⟨⟨xs, q, rfl⟩, hd σ H p⟩
end
end LG
/-! a def that is called without its last values -/
namespace LG
open PySem PySem.Spec PyProof.Rows L2
structure HasD (P : Program) (w : World) (K : PySem.W.Frag) (mg : Str → Option Value) (base : Heap) (CX : CXT) (k : Nat) (x : Str) (ps : List Str) (dvs : List V) (sp : Sp) : Prop where
  ex : ∃ (f : Addr) (fd : FuncData) (ds : List Value), FnOk P w K mg base CX k f fd ps sp ∧ mg x = some (.ref f) ∧ PySem.W.keepIn K (.ref f) = true ∧ Vals dvs ds ∧ Binds K fd ps ds
section
variable {X : Cx} {k j : Nat} {ps : List Str} {sp : Sp} {x : Str} {p pos : Pos} {e : Expr} {es : List Expr} {t : TA} {dvs : List V}
theorem pcD (h : HasD X.prog X.w X.K X.mg X.base CX0 k x ps dvs sp) (hr : Room j X.A) (ha : PA X (e :: es) t) (hg : Gl X x := by rfl) (hj : k ≤ j := by first | decide | omega) (hdb : (x == ("__debug__" : Str)) = false := by decide)
    (he : starEach (e :: es) X.env = (false, eval e X.env) :: starEach es X.env := by rfl) (hpl : (backTo pos (starEach es X.env)).any (·.1) = false := by rfl) : PE X (.Call (.Name x p) (e :: es) [] pos) (tCall sp dvs E0 t) := by
  obtain ⟨f, fd, ds, F, m, kp, hv, b⟩ := h.ex
  exact pe_call F (hr.mono hj) hg m kp b hv pass0 ha hdb he hpl
theorem pcDX (h : HasD X.prog X.w X.K X.mg X.base (L2.CX X.prog X.w) k x ps dvs sp) (hr : Room j X.A) (ha : PA X (e :: es) t) (hg : Gl X x := by rfl) (hj : k ≤ j := by first | decide | omega) (hdb : (x == ("__debug__" : Str)) = false := by decide)
    (he : starEach (e :: es) X.env = (false, eval e X.env) :: starEach es X.env := by rfl) (hpl : (backTo pos (starEach es X.env)).any (·.1) = false := by rfl) : PE X (.Call (.Name x p) (e :: es) [] pos) (tCall sp dvs E0 t) := by
  obtain ⟨f, fd, ds, F, m, kp, hv, b⟩ := h.ex
  exact pe_call F (hr.mono hj) hg m kp b hv passL ha hdb he hpl
end
end LG
namespace LG
open PySem PySem.Spec PyProof.Rows L2
/-! ### defs that have values for what is not handed in -/
section
variable {P : Program} {w : World} {K : PySem.W.Frag} {mg : Str → Option Value} {base : Heap} {x : Str} {st : Stmt} {ps : List Str} {k : Nat} {sp : Sp} {CX : CXT} {dvs : List V}
abbrev FunV (K : PySem.W.Frag) (x : Str) (st : Stmt) (dvs : List V) (f : Addr) (fd : FuncData) : Prop := FunD K x x (defArgs st) (defBody st) (defScope st) dvs [] f fd
theorem funV_ok {f : Addr} {fd : FuncData} {N : List Str} (F : FunV K x st dvs f fd) (S : FnScope N ps (defScope st)) (many : ∀ vs H Q E, sp vs H Q E → vs.length = ps.length)
    (body : ∀ (cdv : Value) (A : Around) (outer : List Env) (s : Shared) (H : Hp) (vs : List V) (Q : VK) (E : XK), Room k (A.deeper (envOfC x (defScope st) s.heap.objs.size f cdv)) → sp vs H Q E →
      ∃ t, PSs (cxOf CX0 P w K mg base N x (defScope st) f cdv A outer s H E).nox (defBody st) t ∧ t { nx := fun _ H' => Q .non H', rt := Q } (start N vs) H) : FnOk P w K mg base CX0 (k + 1) f fd ps sp :=
  F.ok S many fun cdv A outer s H vs Q E hr want => by
    obtain ⟨t, ht, q⟩ := body cdv A outer s H vs Q E hr want
    exact ⟨t, ht.nox, q⟩
structure DefV (K : PySem.W.Frag) (mg : Str → Option Value) (x : Str) (st : Stmt) (ps : List Str) (dvs : List V) : Prop where
  ex : ∃ (f : Addr) (fd : FuncData), FunV K x st dvs f fd ∧ mg x = some (.ref f) ∧ Binds K fd ps []
theorem DefV.has (d : DefV K mg x st ps dvs) (h : ∀ (f : Addr) (fd : FuncData), FunV K x st dvs f fd → FnOk P w K mg base CX k f fd ps sp) : Has P w K mg base CX k x ps sp := by
  obtain ⟨f, fd, F, g, b⟩ := d.ex
  exact ⟨f, fd, h f fd F, g, F.kp, b⟩
theorem defV_mk {h : Heap} {f D : Addr} {od an : Option Addr} {sl : Array (Option Value)} {oc kV dc pm cd ct : Value} (X : K.In h) (G : h.Ns mainGlobals mg)
    (a : PySem.W.nsIn K mainGlobals x = some (some (.ref f))) (l : K.lookup f = some ⟨oc, od, .func (PySem.W.fnOf x x (defArgs st) (defBody st) (defScope st) (.ref D) kV dc pm an cd ct), sl⟩) (c : PySem.W.codeIn K cd x = true) (kp : PySem.W.keepIn K (.ref f) = true) (v : DflV K (.ref D) dvs) (ne : dvs ≠ [])
    (b : ∀ (T : Addr) (kV doc pm : Value) (an : Option Addr) (cdv ct : Value) (us its : List Value), us.length = ps.length → its.length = dvs.length →
      ∃ kk, bindArgs (PySem.W.fnOf x x (defArgs st) (defBody st) (defScope st) (.ref T) kV doc pm an cdv ct) ⟨us, []⟩ = seqItems? (.ref T) >>= kk ∧ kk (some its.toArray) = pure (ps.zip (us ++ its.drop dvs.length))) : DefV K mg x st ps dvs := by
  have F : FunV K x st dvs f _ := ⟨⟨oc, od, .ref D, kV, dc, pm, an, cd, ct, sl, rfl, l, c, v, .inl rfl⟩, kp⟩
  obtain ⟨ds, hv, hb⟩ := FunD.binds1 F ps.length dvs.length ne (by omega) b
  rw [List.drop_length] at hv
  cases hv
  exact ⟨f, _, F, PySem.W.mg_of X G a, hb⟩
structure DefD (K : PySem.W.Frag) (mg : Str → Option Value) (x : Str) (st : Stmt) (ps : List Str) (dvs : List V) : Prop where
  ex : ∃ (f : Addr) (fd : FuncData), FunV K x st dvs f fd ∧ mg x = some (.ref f) ∧ ∃ ds, Vals dvs ds ∧ Binds K fd ps ds
theorem DefD.has (d : DefD K mg x st ps dvs) (h : ∀ (f : Addr) (fd : FuncData), FunV K x st dvs f fd → FnOk P w K mg base CX k f fd ps sp) : HasD P w K mg base CX k x ps dvs sp := by
  obtain ⟨f, fd, F, g, ds, hv, b⟩ := d.ex
  exact ⟨f, fd, ds, h f fd F, g, F.kp, hv, b⟩
theorem defD_mk {h : Heap} {f D : Addr} {od an : Option Addr} {sl : Array (Option Value)} {oc kV dc pm cd ct : Value} (n : Nat) (X : K.In h) (G : h.Ns mainGlobals mg)
    (a : PySem.W.nsIn K mainGlobals x = some (some (.ref f))) (l : K.lookup f = some ⟨oc, od, .func (PySem.W.fnOf x x (defArgs st) (defBody st) (defScope st) (.ref D) kV dc pm an cd ct), sl⟩) (c : PySem.W.codeIn K cd x = true) (kp : PySem.W.keepIn K (.ref f) = true) (v : DflV K (.ref D) dvs) (ne : dvs ≠ []) (hn : n + dvs.length = ps.length)
    (b : ∀ (T : Addr) (kV doc pm : Value) (an : Option Addr) (cdv ct : Value) (us its : List Value), us.length = n → its.length = dvs.length →
      ∃ kk, bindArgs (PySem.W.fnOf x x (defArgs st) (defBody st) (defScope st) (.ref T) kV doc pm an cdv ct) ⟨us, []⟩ = seqItems? (.ref T) >>= kk ∧ kk (some its.toArray) = pure (ps.zip (us ++ its.drop 0))) : DefD K mg x st ps dvs := by
  have F : FunV K x st dvs f _ := ⟨⟨oc, od, .ref D, kV, dc, pm, an, cd, ct, sl, rfl, l, c, v, .inl rfl⟩, kp⟩
  obtain ⟨ds, hv, hb⟩ := FunD.binds1 F n 0 ne (by rw [Nat.sub_zero]; exact hn) b
  exact ⟨f, _, F, PySem.W.mg_of X G a, ds, hv, hb⟩
end
end LG
/-! ### len(set(t)), t a tuple of ints -/
namespace LG
open PySem PySem.Spec PyProof.Rows L2
theorem perm_of_sub : ∀ (L ns : List Int), L.Nodup → (∀ x ∈ L, x ∈ ns) → ∃ r, ns.Perm (L ++ r)
  | [], ns, _, _ => ⟨ns, List.Perm.refl _⟩
  | x :: L, ns, nd, sub => by
    have nx : x ∉ L := (List.nodup_cons.mp nd).1
    have hx : x ∈ ns := sub x List.mem_cons_self
    obtain ⟨r, hr⟩ := perm_of_sub L (ns.erase x) (List.nodup_cons.mp nd).2 fun y hy => (List.mem_erase_of_ne (fun z => nx (by rw [← z]; exact hy))).mpr (sub y (List.mem_cons_of_mem _ hy))
    exact ⟨r, (List.perm_cons_erase hx).trans (List.Perm.cons x hr)⟩
theorem count_nodup {L ns : List Int} (nd : L.Nodup) (h : ∀ k, k ∈ ns ↔ k ∈ L) : L.length = ns.length ↔ ns.Nodup := by
  obtain ⟨r, hr⟩ := perm_of_sub L ns nd fun x hx => (h x).mpr hx
  constructor
  · intro e
    have q := hr.length_eq
    rw [List.length_append] at q
    have r0 : r = [] := List.eq_nil_of_length_eq_zero (by omega)
    subst r0
    rw [List.append_nil] at hr
    exact (List.Perm.nodup_iff hr).mpr nd
  · intro hn
    obtain ⟨r2, hr2⟩ := perm_of_sub ns L hn fun x hx => (h x).mp hx
    have q := hr.length_eq
    have q2 := hr2.length_eq
    rw [List.length_append] at q q2
    omega
def tLenSetT (K : PySem.W.Frag) (ta : TE) : TE := fun σ H Q => ta σ H fun x H1 => ∃ (l : Addr) (ns : List Int), x = .ref l ∧ SqT K H1 l (ns.map V.int) ∧ ns.length ≤ 4000 ∧ ∀ c : Nat, (c = ns.length ↔ ns.Nodup) → Q (.int c) H1
theorem pe_lenSetT {X : Cx} {a : Expr} {ta : TE} {p p2 q pos : Pos} (hg : Gl X "len") (hm : X.mg "len" = none) (hg2 : Gl X "set") (hm2 : X.mg "set" = none) (ha : PE X a ta) (hc : X.calm = true := by rfl)
    (na : starEach [a] X.env = (false, eval a X.env) :: starEach [] X.env := by rfl) : PE X (.Call (.Name "len" p) [.Call (.Name "set" p2) [a] [] q] [] pos) (tLenSetT X.K ta) := by
  refine ⟨fun pins s σ H Q I h => ?_⟩
  refine Call_ (ld_blt I hg hm boot_len (PyProof.Rows.callWith_builtin1 (PyProof.Rows.args_cons ?_ rfl) rfl rfl))
  refine Call_ (ld_blt I hg2 hm2 boot_set (PyProof.Rows.callWith_type1 (PyProof.Rows.args_cons (thn (ha.run pins s σ H _ I h) fun v s1 ⟨x, H1, I1, r1, q1⟩ => PyProof.Rows.args_nil ?_) na) na rfl))
  obtain ⟨l, ns, rfl, hq, few, q1⟩ := q1
  cases r1
  obtain ⟨its, r, pl, hz⟩ := I1.tuple hq
  refine call_set_tupI ns (I1.ok.hd hc) (show s1.heap.IsTuple l its.toArray from pl) (ints_of_vals r) (by unfold scanBound; omega) fun h' tk c R hcn keep => ?_
  obtain ⟨o, es, ep, t, ho, hex, hd, _, nd, mem, sb, hf, hn, _⟩ := R
  have I2 : Inv X pins σ H1 { s1 with heap := h', toks := tk } := I1.kept keep
  refine PyProof.Rows.args_nil (call_len_set ho hex hd hf (by unfold scanBound at sb; omega) ⟨.int c, H1, I2.tok _, ⟨_, by rw [hn]⟩, q1 c ?_⟩)
  have e : c = (es.toList.map keyOf).length := by rw [List.length_map, Array.length_toList, hn]
  rw [e]
  exact count_nodup nd fun k => by rw [← mem k]; simp
theorem st_lenSet {K : PySem.W.Frag} {σ : L2.St} {H : Hp} {Q : VK} {ta : TE} (h : ta σ H fun x H1 => ∃ (l : Addr) (ns : List Int), x = .ref l ∧ SqT K H1 l (ns.map V.int) ∧ ns.length ≤ 4000 ∧ ∀ c : Nat, (c = ns.length ↔ ns.Nodup) → Q (.int c) H1) : tLenSetT K ta σ H Q := h
end LG
namespace LG
open PySem PySem.Spec PyProof.Rows L2
def rLenS (K : PySem.W.Frag) : List V → Hp → VK → Prop := fun xs H Q => ∃ p ys, xs = [V.ref p] ∧ (SqL K H p ys ∨ SqT K H p ys) ∧ Q (.int ys.length) H
/-! ### tuples that are known to have no dict of their own -/
def Nd (H : Hp) (t : Addr) : Prop := ∃ ob xs, H t = some (.frz ob (.tup xs)) ∧ ob.dict = none
theorem Nd.stay {H H' : Hp} {t : Addr} (s : TupsStay H H') (h : Nd H t) : Nd H' t := by
  obtain ⟨ob, xs, e, d⟩ := h
  exact ⟨ob, xs, s _ _ (.inr ⟨_, _, rfl⟩) e, d⟩
/-- all references of these values are such -/
def NdAll (H : Hp) (xs : List V) : Prop := ∀ t, V.ref t ∈ xs → Nd H t
theorem NdAll.stay {H H' : Hp} {xs : List V} (s : TupsStay H H') (h : NdAll H xs) : NdAll H' xs := fun t ht => (h t ht).stay s
section
variable {X : Cx}
theorem call_tuple_ofN : CallR X (.type "tuple") (fun xs H Q => ∃ p ys, xs = [.ref p] ∧ SqL X.K H p ys ∧ ∀ l ob, H l = none → ob.dict = none → Q (.ref l) (upd H l (.frz ob (.tup ys)))) := by
  intro pins s σ H xs us Q I r h
  obtain ⟨p, ys, rfl, got, q⟩ := h
  obtain ⟨u, rfl, rel0⟩ := vals1 r
  cases rel0
  obtain ⟨items2, rel', place, len⟩ := I.list got
  have long := rel'.length
  refine call_tuple_list place.isList (fun h' keeps => ?_) (by simp only [List.size_toArray] <;> omega)
  have J1 : Inv X pins σ H { s with heap := h' } := I.kept (t' := s.toks) keeps
  have J2 : Inv X pins σ (upd H h'.objs.size (.frz { cls := .type "tuple", data := .seq items2.toArray } (.tup ys))) { s with heap := h'.push { cls := .type "tuple", data := .seq items2.toArray } } :=
    J1.laid (t' := s.toks) (fun b o e => Heap.get?_push_of_some _ e) (Nat.le_refl _) (show ObjOk X.prog X.w _ _ _ (.frz _ (.tup ys)) from ⟨Heap.get?_push_size _ rfl, len, items2, rel', IsTup.new _ _⟩)
  exact ⟨.ref h'.objs.size, _, J2, rfl, q _ _ (J1.hok.fresh (Nat.le_refl _)) rfl⟩
def tBMN (K : PySem.W.Frag) (r : V → List V → Hp → VK → Prop) (to : TE) (t : TA) : TE := fun σ H Q => to σ H fun x H1 => (∃ a, x = .ref a ∧ Nd H1 a) ∧ t σ H1 fun xs H2 => r x xs H2 Q
theorem pe_bmN {o e : Expr} {es : List Expr} {to : TE} {t : TA} {name : Str} {apos cpos : Pos} {id : String} {r : V → List V → Hp → VK → Prop} (slot : Slot "tuple" name id) (hty : typeOf (.builtin id) = pure (.type "method_descriptor")) (hm : MtR X id r) (ho : PE X o to) (ha : PA X (e :: es) t)
    (hbase : attributeBase o name X.env (eval o X.env) = eval o X.env := by rfl)
    (hfew : ((backTo cpos (starEach (e :: es) X.env)).all (fun x => !x.1) && (backToKw cpos (keywordEach [] X.env)).all (fun x => x.1.isSome)
      && decide ((e :: es).length + ([] : List Keyword).length + (if ([] : List Keyword).isEmpty then 0 else 1) < 30)) = true := by rfl)
    (hline : (apos.endLine == cpos.line) = true := by rfl) (hs : starEach (e :: es) X.env = (false, eval e X.env) :: starEach es X.env := by rfl) (hplain : (backTo cpos (starEach es X.env)).any (·.1) = false := by rfl) :
    PE X (.Call (.Attribute o name apos) (e :: es) [] cpos) (tBMN X.K r to t) := by
  refine ⟨fun pins s σ H Q I h => ?_⟩
  refine wpAny_Call_method_late hbase hfew hline rfl (thn (ho.run pins s σ H _ I h) fun v s1 ⟨x, H1, J1, rel2, ty, ask1⟩ => ?_)
  obtain ⟨a, rfl, ob, xs, hk, hd⟩ := ty
  have ok : ObjOk X.prog X.w H1 s1.heap a (.frz ob (.tup xs)) := J1.hok a _ hk
  obtain ⟨e1, _, items2, _, o2, e2, c2, _⟩ := ok
  rw [e1] at e2
  obtain rfl := Option.some.inj e2
  obtain rfl : v = .ref a := rel2
  refine ⟨"tuple", id, PySem.F.plainAttrs_tuple, slot, hty, ⟨ob, e1, c2⟩, fun b e => ?_, ?_⟩
  · cases e
    exact ⟨ob, e1, hd⟩
  have args1 := ha.run cpos pins s1 σ H1 _ J1 ask1
  rw [hs] at args1 ⊢
  refine Calls.callWith_builtin (by show (false || (backTo cpos (starEach es X.env)).any (·.1)) = false; rw [hplain] <;> rfl) (Calls.evalArgs_plain ?_)
  exact thn args1 fun us s2 ⟨vs, H2, J2, rel3, ask2⟩ => hm pins s2 σ H2 (.ref a) vs (.ref a) us Q J2 rfl rel3 ask2
def rTupF (K : PySem.W.Frag) : List V → Hp → VK → Prop := fun vs H Q => ∃ (a : Addr) (xs : List V), vs = [.ref a] ∧ SqL K H a xs ∧ ∀ p H', H p = none → Same H H' → SqT K H' p xs → Nd H' p → Q (.ref p) H'
theorem call_tupF : CallR X (.type "tuple") (rTupF X.K) := fun pins s σ H vs us Q J r want => by
  obtain ⟨a, xs, rfl, h1, q⟩ := want
  exact call_tuple_ofN pins s σ H _ us Q J r ⟨a, xs, rfl, h1, fun l ob hl hd => q l _ hl (same_new hl _) (.inl (.inr ⟨ob, upd_same⟩)) ⟨ob, xs, upd_same, hd⟩⟩
theorem st_rTupF {K : PySem.W.Frag} {H : Hp} {Q : VK} {a : Addr} {xs : List V} (hx : SqL K H a xs) (h : ∀ p H', H p = none → Same H H' → SqT K H' p xs → Nd H' p → Q (.ref p) H') : rTupF K [.ref a] H Q := ⟨a, xs, rfl, hx, h⟩
theorem st_BMN {K : PySem.W.Frag} {σ : L2.St} {H : Hp} {Q : VK} {r : V → List V → Hp → VK → Prop} {to : TE} {t : TA} (h : to σ H fun x H1 => (∃ a, x = .ref a ∧ Nd H1 a) ∧ t σ H1 fun xs H2 => r x xs H2 Q) : tBMN K r to t σ H Q := h
/-- a tuple that has no dict of its own -/
def SqN (K : PySem.W.Frag) (H : Hp) (a : Addr) (xs : List V) : Prop := SqT K H a xs ∧ Nd H a
theorem SqN.stay {K : PySem.W.Frag} {H H' : Hp} {a : Addr} {xs : List V} (t : TupsStay H H') (h : SqN K H a xs) : SqN K H' a xs := ⟨t.seq h.1, h.2.stay t⟩
end
end LG
/-! ### t.index(x), t a tuple of flat items -/
namespace LG
open PySem PySem.Spec PyProof.Rows L2
def rIndexT (K : PySem.W.Frag) : V → List V → Hp → VK → Prop := fun x xs H Q => ∃ (a : Addr) (ys : List V) (y : V) (j : Nat) (z : V), x = V.ref a ∧ xs = [y] ∧ SqT K H a ys ∧ flatV y = true ∧ ys.all flatV = true ∧ ys[j]? = some z ∧ eqV z y = true ∧
  (∀ (m : Nat) (z' : V), m < j → ys[m]? = some z' → eqV z' y = false) ∧ Q (.int (j : Nat)) H
theorem mt_indexT {X : Cx} : MtR X "tuple.index" (rIndexT X.K) := by
  intro pins s σ H x xs v us Q I rel0 rels h
  obtain ⟨a, ys, y, j, z, rfl, rfl, sq, flatY, flatYs, zAt, zEq, none, q⟩ := h
  cases rel0
  cases rels with
  | cons relY relT =>
    rename_i uvY uvT
    cases relT
    obtain ⟨items2, rel, ⟨⟨cls, dd, data, sl⟩, oAt, cl, n, dat⟩, long⟩ := I.tuple sq
    simp only at cl dat
    subst cl dat
    obtain ⟨uv, uvAt, uvRel⟩ := rel.get zAt
    obtain ⟨jLt, jEq⟩ := List.getElem?_eq_some_iff.mp uvAt
    have lens := rel.length
    have jIn : j < items2.toArray.size := by simpa using jLt
    refine call_meets PySem.F.slot_tuple_index ⟨_, oAt, rfl⟩ PySem.F.entry_tuple_index (PySem.F.args_tuple_index_2 _ _)
      (TI.tuple_indexAt a items2.toArray n dd sl uvY (eqU y) j jIn ?_ ?_) ⟨oAt, fun u' hu' => mem_eqAt relY flatY rel flatYs u' (by simpa using hu'), ?_⟩
    · have same : items2.toArray[j] = uv := by simpa using jEq
      rw [same, eqU_of uvRel (flat_at flatYs zAt)]
      exact zEq
    · intro m mIn mLt
      have mIn2 : m < items2.length := by simpa using mIn
      have mIn3 : m < ys.length := by omega
      have yAt : ys[m]? = some ys[m] := List.getElem?_eq_getElem mIn3
      obtain ⟨uv2, uv2At, uv2Rel⟩ := rel.get yAt
      obtain ⟨_, mEq⟩ := List.getElem?_eq_some_iff.mp uv2At
      have same : items2.toArray[m] = uv2 := by simpa using mEq
      rw [same, eqU_of uv2Rel (flat_at flatYs yAt)]
      exact none m _ mLt yAt
    · exact ⟨.int (j : Nat), H, I.tok _, ⟨_, rfl⟩, q⟩
theorem pe_ixTK {X : Cx} {K : PySem.W.Frag} (eK : X.K = K) {o e : Expr} {es : List Expr} {to : TE} {t : TA} {apos cpos : Pos} (ho : PE X o to) (ha : PA X (e :: es) t)
    (hbase : attributeBase o "index" X.env (eval o X.env) = eval o X.env := by rfl)
    (hfew : ((backTo cpos (starEach (e :: es) X.env)).all (fun x => !x.1) && (backToKw cpos (keywordEach [] X.env)).all (fun x => x.1.isSome)
      && decide ((e :: es).length + ([] : List Keyword).length + (if ([] : List Keyword).isEmpty then 0 else 1) < 30)) = true := by rfl)
    (hline : (apos.endLine == cpos.line) = true := by rfl) (hs : starEach (e :: es) X.env = (false, eval e X.env) :: starEach es X.env := by rfl) (hplain : (backTo cpos (starEach es X.env)).any (·.1) = false := by rfl) :
    PE X (.Call (.Attribute o "index" apos) (e :: es) [] cpos) (tBMN K (rIndexT K) to t) := by
  subst eK
  exact pe_bmN PySem.F.slot_tuple_index PySem.F.type_tuple_index mt_indexT ho ha hbase hfew hline hs hplain
end LG
namespace LG
open PySem PySem.Spec PyProof.Rows L2
set_option maxHeartbeats 4000000 in
theorem tuple_mul1 (l : Addr) (items : Array Value) (n : Nat) (dd : Option Addr) (sl : Array (Option Value)) (x : Int) (u : Tok) (c0 : (decide (x < -(2 ^ 63)) || decide (x ≥ 2 ^ 63)) = false) (c1 : (items.isEmpty || x == 1) = true) :
    Meets (Builtin.«tuple.__mul__» ⟨[.ref l, .int x u], []⟩) (fun _ R s => s.heap.get? l = some { cls := .type "tuple", dict := dd, data := .seq items n, slots := sl } ∧
      R (.ok (.ret (Value.ref l))) s) :=
  .of_wp fun prog w A R s h => by
    obtain ⟨hp, g, d, tk, os⟩ := s
    obtain ⟨hl, h⟩ := h
    have f1 := AutoSeq1.idx_int
    wp_walk using wpAny_loadPart' hl
    repeat (first
      | (refine wpAny_ite_false (decide_eq_false (by rw [c0]; exact Bool.false_ne_true)) ?_; wp_walk using wpAny_loadPart' hl)
      | (refine wpAny_ite_true (decide_eq_true (by rw [c1])) ?_; wp_walk using wpAny_loadPart' hl))
    exact ⟨_, rfl, h⟩
set_option maxHeartbeats 4000000 in
theorem tuple_mul0 (l : Addr) (items : Array Value) (n : Nat) (dd : Option Addr) (sl : Array (Option Value)) (x : Int) (u : Tok) (c0 : (decide (x < -(2 ^ 63)) || decide (x ≥ 2 ^ 63)) = false) (c1 : (items.isEmpty || x == 1) = false) (c2 : (decide (x ≤ 0) || items.isEmpty) = true) :
    Meets (Builtin.«tuple.__mul__» ⟨[.ref l, .int x u], []⟩) (fun _ R s => s.heap.get? l = some { cls := .type "tuple", dict := dd, data := .seq items n, slots := sl } ∧
      R (.ok (.ret (Value.ref s.heap.objs.size))) { s with heap := s.heap.push { cls := Value.type "tuple", data := Data.seq #[] }, toks := s.toks }) :=
  .of_wp fun prog w A R s h => by
    obtain ⟨hp, g, d, tk, os⟩ := s
    obtain ⟨hl, h⟩ := h
    have f1 := AutoSeq1.idx_int
    wp_walk using wpAny_loadPart' hl
    repeat (first
      | (refine wpAny_ite_false (decide_eq_false (by rw [c0]; exact Bool.false_ne_true)) ?_; wp_walk using wpAny_loadPart' hl)
      | (refine wpAny_ite_false (decide_eq_false (by rw [c1]; exact Bool.false_ne_true)) ?_; wp_walk using wpAny_loadPart' hl)
      | (refine wpAny_ite_true (decide_eq_true (by rw [c2])) ?_; wp_walk using wpAny_loadPart' hl))
    exact ⟨_, rfl, h⟩
def rRepA (K : PySem.W.Frag) : R2 := fun x y H Q => ∃ l k xs, x = .ref l ∧ y = .int k ∧ SqT K H l xs ∧ xs ≠ [] ∧ 0 ≤ k ∧ k ≤ 1000 ∧ xs.length ≤ 1000 ∧ ∀ p H', Same H H' → SqT K H' p (List.replicate k.toNat xs).flatten → Q (.ref p) H'
set_option maxHeartbeats 4000000 in
theorem op_repA {X : Cx} : OpR X (binaryOp .Mult) (rRepA X.K) := by
  intro pins s σ H x y v u Q I rx ry h
  obtain ⟨l, k, xs, rfl, rfl, hT, hne, h1, h2, hz, q⟩ := h
  by_cases k2 : 2 ≤ k
  · exact op_repT pins s σ H _ _ v u Q I rx ry ⟨l, k, xs, rfl, rfl, hT, hne, k2, h2, hz, fun p hp => q p _ (same_new hp _) (SqT.of upd_same)⟩
  cases rx
  obtain ⟨t, rfl⟩ := ry
  obtain ⟨its, r, ⟨⟨cls, dd, data, sl⟩, ho, hc, n, hd⟩, hs⟩ := I.tuple hT
  simp only at hc hd
  subst hc hd
  have hle : its.length = xs.length := r.length.symm
  have hn : its ≠ [] := fun e => hne (by
    rw [e] at hle
    exact List.eq_nil_of_length_eq_zero hle.symm)
  have hi : its.toArray.isEmpty = false := by
    cases its with
    | nil => exact absurd rfl hn
    | cons a b => rfl
  have c0 : (decide (k < -(2 ^ 63)) || decide (k ≥ 2 ^ 63)) = false := by
    rw [decide_eq_false (by omega), decide_eq_false (by omega)] <;> rfl
  refine wpAny_binaryOp_repeat_ref (T := "tuple") (U := "int") (by decide) ⟨_, ho, rfl⟩ (fun s' => typeIs_int s' k t) noFill_tuple_mul F.fills_int_mul F.slot_int_rmul repeat_tuple F.slot_int_index.lookup
    (call_meets F.slot_int_rmul (typeIs_int s k t) F.entry_int_rmul (F.args_int_rmul_2 _ _) (int_rmul_tuple k t l its.toArray n dd sl) ⟨ho, rfl, ⟨_, ho, rfl⟩, ?_⟩)
  by_cases k1 : k = 1
  · have c1 : (its.toArray.isEmpty || k == 1) = true := by rw [k1, hi]; rfl
    refine call_meets F.slot_tuple_mul ⟨_, ho, rfl⟩ F.entry_tuple_mul (F.args_tuple_mul_2 _ _) (tuple_mul1 l its.toArray n dd sl k t c0 c1) ⟨ho, ?_⟩
    refine ⟨.ref l, H, I, rfl, q l H (Same.refl _) ?_⟩
    rw [k1]
    have e : (List.replicate (1 : Int).toNat xs).flatten = xs := by
      show (List.replicate 1 xs).flatten = xs
      simp
    rw [e]
    exact hT
  · obtain rfl : k = 0 := by omega
    have c1 : (its.toArray.isEmpty || (0 : Int) == 1) = false := by rw [hi]; rfl
    have c2 : (decide ((0 : Int) ≤ 0) || its.toArray.isEmpty) = true := by rw [decide_eq_true (Int.le_refl 0)]; rfl
    refine call_meets F.slot_tuple_mul ⟨_, ho, rfl⟩ F.entry_tuple_mul (F.args_tuple_mul_2 _ _) (tuple_mul0 l its.toArray n dd sl 0 t c0 c1 c2) ⟨ho, ?_⟩
    have hp := I.hok.fresh (Nat.le_refl s.heap.objs.size)
    refine ⟨.ref s.heap.objs.size, _, I.laid (t' := s.toks) (o := .tup []) (fun b ob q => Heap.get?_push_of_some _ q) (Nat.le_refl _) ?_, rfl, q _ _ (same_new hp _) (SqT.of upd_same)⟩
    exact ⟨Nat.zero_le _, [], .nil, IsTup.new _ _⟩
theorem st_rRepA {K : PySem.W.Frag} {H : Hp} {Q : VK} {a : Addr} {k : Int} {xs : List V} (hx : SqT K H a xs) (hn : xs ≠ []) (h0 : 0 ≤ k) (h1 : k ≤ 1000) (hz : xs.length ≤ 1000) (h : ∀ p H', Same H H' → SqT K H' p (List.replicate k.toNat xs).flatten → Q (.ref p) H') : rRepA K (.ref a) (.int k) H Q := ⟨a, k, xs, rfl, rfl, hx, hn, h0, h1, hz, h⟩
end LG
namespace LG
open PySem PySem.Spec PyProof.Rows L2
def tCallKR (sp : Sp) (E : XK) (tk : TA) : TE := fun σ H Q => tk σ H fun zs H2 => sp zs.reverse H2 Q E
structure HasKR (P : Program) (w : World) (K : PySem.W.Frag) (mg : Str → Option Value) (base : Heap) (CX : CXT) (k : Nat) (x x1 x2 : Str) (sp : Sp) : Prop where
  ex : ∃ (f : Addr) (fd : FuncData), FnOk P w K mg base CX k f fd [x1, x2] sp ∧ mg x = some (.ref f) ∧ PySem.W.keepIn K (.ref f) = true ∧ ∀ (s : Shared) (w1 w2 : Value), BindsTo s fd ⟨[], [(x2, w2), (x1, w1)]⟩ [(x1, w1), (x2, w2)]
structure DefKR (K : PySem.W.Frag) (mg : Str → Option Value) (x : Str) (st : Stmt) (x1 x2 : Str) : Prop where
  ex : ∃ (f : Addr) (fd : FuncData), Fun K x x st f fd ∧ mg x = some (.ref f) ∧ ∀ (s : Shared) (w1 w2 : Value), BindsTo s fd ⟨[], [(x2, w2), (x1, w1)]⟩ [(x1, w1), (x2, w2)]
theorem DefKR.has {P : Program} {w : World} {K : PySem.W.Frag} {mg : Str → Option Value} {base : Heap} {CX : CXT} {k : Nat} {x x1 x2 : Str} {sp : Sp} {st : Stmt} (d : DefKR K mg x st x1 x2) (h : ∀ (f : Addr) (fd : FuncData), Fun K x x st f fd → FnOk P w K mg base CX k f fd [x1, x2] sp) : HasKR P w K mg base CX k x x1 x2 sp := by
  obtain ⟨f, fd, F, m, b⟩ := d.ex
  exact ⟨f, fd, h f fd F, m, F.kp, b⟩
section
variable {X : Cx} {CX : CXT} {k j : Nat} {x1 x2 : Str} {sp : Sp} {x : Str} {p pos : Pos} {E : XK} {kws : List Keyword} {tk : TA}
theorem pcKR (h : HasKR X.prog X.w X.K X.mg X.base CX k x x1 x2 sp) (hr : Room j X.A) (hx : Passes CX X E) (hkw : PK X kws tk) (hg : Gl X x := by rfl) (hj : k ≤ j := by first | decide | omega)
    (hall : (backToKw pos (keywordEach kws X.env)).all (·.1.isSome) = true := by rfl) (hks : (backToKw pos (keywordEach kws X.env)).filterMap (·.1) = [x2, x1] := by rfl) (hdb : (x == ("__debug__" : Str)) = false := by decide)
    (hpl : ((backTo pos (starEach [] X.env)).any (·.1) || (backToKw pos (keywordEach kws X.env)).any (·.1.isNone)) = false := by rfl) : PE X (.Call (.Name x p) [] kws pos) (tCallKR sp E tk) := by
  obtain ⟨f, fd, F, hm, hk, hb⟩ := h.ex
  refine ⟨fun pins s σ H Q I h => ?_⟩
  refine wpAny_Call_Name_kw (ld_glob I hg hm ?_ hdb)
  refine PySem.W.callWith_KW0 (h₀ := X.base) I.ok.mod.kin hk hall ?_ hpl
  refine thn (hkw.run pos pins s σ H _ I h) fun ws s2 ⟨zs, H2, I2, rz, q2⟩ => ⟨I2.kIn, ?_⟩
  rw [hks]
  have hl : zs.reverse.length = 2 := F.len _ _ _ _ q2
  obtain ⟨z2, z1, rfl⟩ : ∃ z2 z1, zs = [z2, z1] := by
    match zs, hl with
    | [], z => simp at z
    | [_], z => simp at z
    | [a, b], _ => exact ⟨a, b, rfl⟩
    | _ :: _ :: _ :: _, z => simp at z
  cases rz with | cons a1 rz =>
  cases rz with | cons a2 rz =>
  cases rz
  refine wpAny_call (codeAny_mono (F.run X.A X.stack s2 H2 ⟨[], [(x2, _), (x1, _)]⟩ [_, _] [z1, z2] Q E (hr.mono hj) I2.env0 (hb s2 _ _) (.cons a2 (.cons a1 .nil)) q2) fun r s' hq => ?_)
  cases r with
  | error e => exact hx pins σ H2 s2 e s' I2 hq
  | ok fl =>
    cases fl with
    | ret u => exact I2.after hq
    | next => exact False.elim hq
    | brk => exact False.elim hq
    | cont => exact False.elim hq
theorem st_callKR {sp : Sp} {E : XK} {σ : L2.St} {H : Hp} {Q : VK} {t : TA} (h : t σ H fun vs H1 => sp vs.reverse H1 Q E) : tCallKR sp E t σ H Q := h
end
end LG
/-! ### d.setdefault(t, x), the keys tuples; max of a tuple of numbers -/
namespace LG
open PySem PySem.Spec PyProof.Rows L2
section
variable {X : Cx} {pins : List (Addr × Obj)} {σ : L2.St} {H : Hp} {s : Shared} {a b : Addr} {r : Value} {d : V} {k : List L2.Key} {A : Around} {E : Value → Shared → Prop}
theorem d_setdT {kvs : List (List L2.Key × V)} {Q : Value → Shared → Prop} (hu : A.units + 1 < cLine) (I : Inv X pins σ H s) (e : H a = some (.dT kvs)) (eb : H b = some (.tup (k.map kV))) (rd : RelV d r) (hl : kvs.length < sizeLine)
    (h1 : ∀ v, valV kvs k = some v → ∀ (w' : Value) (s' : Shared), Inv X pins σ H s' → RelV v w' → Q w' s') (h2 : valV kvs k = none → ∀ (w' : Value) (s' : Shared), Inv X pins σ (upd H a (.dT (putK kvs k d))) s' → RelV d w' → Q w' s') :
    wpAny (model X.prog X.w) A (call (.builtin "dict.setdefault") [.ref a, .ref b, r]) Q E s := by
  obtain ⟨small, own, xs, rel, place⟩ := dt_of I.hok e
  have few : xs.length ≤ sizeLine := by rw [← Paired.length rel]; exact small
  refine call_setdefault_heap (hsz := few) (tupleKind_room_in1 hu) (key_of I.hok eb) own place (fun p there => ?_) (fun missing h' made same => ?_)
  · have got := rel.val k
    rw [there] at got
    cases old : valV kvs k with
    | none => rw [old] at got; exact (show False from got).elim
    | some v => rw [old] at got; exact h1 v old _ _ (I.tok _) got
  · have got := rel.val k
    rw [missing] at got
    cases old : valV kvs k with
    | some v => rw [old] at got; exact (show False from got).elim
    | none =>
      have few2 : (putK kvs k d).length ≤ sizeLine := by have := length_putK kvs k d; omega
      obtain ⟨ob, es, ep, at1, c2, c3, c4, _, c5⟩ := made
      refine h2 old _ _ (d_write I (by rw [e]; exact True.intro) same ⟨ob, at1⟩ ⟨few2, own, _, (rel.put k eb rd).keeps fun c ys ec => ?_, ob, es, ep, at1, c2, c3, c4, c5⟩) rd
      rw [upd_ne (ne_of ec e (fun z => nomatch z))]
      exact ec
end
def tDSetdT (td ty tx : TE) : TE := fun σ H Q => td σ H fun x H1 => (∃ a, x = .ref a ∧ IsD H1 a) ∧ ty σ H1 fun y H2 => tx σ H2 fun z H3 => ∃ (a b : Addr) (kvs : List (List L2.Key × V)) (k : List L2.Key), x = .ref a ∧ H3 a = some (.dT kvs) ∧ y = .ref b ∧ H3 b = some (.tup (k.map kV)) ∧ kvs.length < sizeLine ∧
  (∀ v, valV kvs k = some v → Q v H3) ∧ (valV kvs k = none → Q z (upd H3 a (.dT (putK kvs k z))))
section
variable {X : Cx} {o e f : Expr} {td ty tx : TE} {apos cpos : Pos}
theorem pe_dsetdT (hu : X.A.units + 64 < cLine) (ho : PE X o td) (he : PE X e ty) (hf : PE X f tx) (m : M2 X o "setdefault" apos e f cpos) : PE X (.Call (.Attribute o "setdefault" apos) [e, f] [] cpos) (tDSetdT td ty tx) := by
  refine ⟨fun pins s σ H Q I h => ?_⟩
  refine wpAny_Call_method m.base m.few m.line PySem.F.plainAttrs_dict PySem.F.slot_dict_setdefault PySem.F.type_dict_setdefault (thn (ho.run pins s σ H _ I h) fun u s1 ⟨x, H1, I1, rx, ⟨a, ex, isd⟩, q1⟩ => ?_)
  subst ex
  obtain rfl : u = Value.ref a := rx
  obtain ⟨t1, t2, _⟩ := isD_at I1 isd
  refine ⟨t1, t2, ?_⟩
  rw [m.trees]
  refine Calls.callWith_builtin rfl (Calls.evalArgs_plain (Calls.spliced_cons (thn (he.run pins s1 σ H1 _ I1 q1) fun iv s2 ⟨y, H2, I2, ry, q2⟩ =>
    Calls.spliced_cons (thn (hf.run pins s2 σ H2 _ I2 q2) fun fv s3 ⟨z, H3, I3, rz, a', b, kvs, k, ea, hd, ey, eb, hl, q3, q4⟩ => Calls.spliced_nil ?_))))
  cases ea
  subst ey
  obtain rfl : iv = Value.ref b := ry
  exact d_setdT (by omega) I3 hd eb rz hl (fun v hv w' s4 I4 rw' => ⟨v, _, I4, rw', q3 v hv⟩) fun hn w' s4 I4 rw' => ⟨z, _, I4, rw', q4 hn⟩
end
def rMaxT (K : PySem.W.Frag) : List V → Hp → VK → Prop := fun vs H Q => ∃ (a : Addr) (ns : List Int), vs = [V.ref a] ∧ SqT K H a (ns.map V.int) ∧ 0 < ns.length ∧ ∀ m, m ∈ ns → (∀ y ∈ ns, y ≤ m) → Q (.int m) H
theorem foldl_max : ∀ (ns : List Int) (n : Int), (ns.foldl max n = n ∨ ns.foldl max n ∈ ns) ∧ n ≤ ns.foldl max n ∧ ∀ y ∈ ns, y ≤ ns.foldl max n
  | [], n => ⟨.inl rfl, Int.le_refl _, fun y hy => by cases hy⟩
  | k :: ns, n => by
    obtain ⟨a, b, c⟩ := foldl_max ns (max n k)
    rw [List.foldl_cons]
    refine ⟨?_, by omega, fun y hy => ?_⟩
    · rcases a with a | a
      · rw [a]
        by_cases q : n ≤ k
        · exact .inr (by rw [Int.max_eq_right q]; exact List.mem_cons_self)
        · exact .inl (Int.max_eq_left (by omega))
      · exact .inr (List.mem_cons_of_mem _ a)
    · rcases List.mem_cons.mp hy with rfl | hy
      · omega
      · exact c y hy
theorem alike_ints : ∀ ns : List Int, PySem.W.AlikeAll (ns.map PyData.int) := fun ns => ⟨fun x hx y hy => by
    obtain ⟨i, _, rfl⟩ := List.mem_map.mp hx
    obtain ⟨j, _, rfl⟩ := List.mem_map.mp hy
    rfl, fun x hx => by
    obtain ⟨i, _, rfl⟩ := List.mem_map.mp hx
    exact fun z => nomatch z⟩
theorem depth_ints : ∀ ns : List Int, PyData.depthAll (ns.map PyData.int) = 0
  | [] => by simp [PyData.depthAll]
  | n :: ns => by simp [PyData.depthAll, PyData.depth, depth_ints ns]
theorem cr_maxT {X : Cx} (hc : X.calm = true) (hu : X.A.units + 64 < cLine) : CallR X (.builtin "max") (rMaxT X.K) := by
  intro pins s σ H vs us Q I r h
  obtain ⟨a, ns, rfl, hs, hne, q⟩ := h
  obtain ⟨its, rel, place, small⟩ := I.tuple hs
  rw [Vals.ref1 r]
  cases ns with
  | nil => simp at hne
  | cons n ns =>
  refine PySem.W.max_tuple_data (I.ok.hd hc) place (DtAll.bare I _ _ _ (DtAll.ints (n :: ns)) rel) (alike_ints (n :: ns)) (by have := depth_ints (n :: ns); rw [List.map_cons] at this; rw [this]; omega) fun i v h' tk bs hv hr hk => ?_
  rw [PySem.W.maxD_ints] at hr
  obtain ⟨f1, f2, f3⟩ := foldl_max ns n
  cases hr with
  | int i t =>
  refine ⟨.int _, H, I.kept hk, ⟨t, rfl⟩, q _ ?_ fun y hy => ?_⟩
  · rcases f1 with e | e
    · rw [e]; exact List.mem_cons_self
    · exact List.mem_cons_of_mem _ e
  · rcases List.mem_cons.mp hy with rfl | hy
    · exact f2
    · exact f3 y hy
end LG
local macro_rules | `(tactic| close_w) => `(tactic| first | (exact Or.inl ⟨by omega, by omega⟩) | (exact Or.inr ⟨by omega, by omega⟩) | (exact And.intro (by omega) (by omega)) | (exact And.intro (by omega) (And.intro (by omega) (by omega))) | ((show (0 : Int) < _); omega) | ((show (0 : Int) ≤ _); omega) | omega)
local macro_rules | `(tactic| w_left) => `(tactic| (first
  | (with_reducible first
    | refine LG.st_seq ?_ | refine LG.st_asg ?_ | refine LG.st_c ?_ | refine LG.st_op ?_ | refine LG.st_cons ?_ | refine LG.st_nil ?_ | refine LG.st_name ?_ | refine LG.st_call0 ?_ | refine LG.st_callK0 ?_ | refine LG.st_callKR ?_ | refine LG.st_CB ?_
    | refine LG.st_I0 ?_ | refine LG.st_ex ?_ | refine LG.st_exi ?_ | refine LG.st_test ?_ | refine LG.st_if ?_ | refine LG.st_tup ?_ | refine LG.st_tupN ?_ | refine LG.st_lstN ?_ | refine LG.st_lst ?_ | refine LG.st_drop ?_ | refine LG.st_ret ?_ | refine LG.st_retN ?_ | refine LG.st_next ?_
    | refine LG.st_BM ?_ | refine LG.st_BMN ?_ | refine LG.st_BM0 ?_ | refine LG.st_sl ?_ | refine LG.st_noPart ?_ | refine LG.st_part ?_ | refine LG.st_list ?_ | refine LG.st_itup ?_ | refine LG.st_rng1 ?_ | refine LG.st_rng2 ?_
    | refine LG.st_add ?_ | refine LG.st_sub ?_ | refine LG.st_U ?_ | refine LG.st_and ?_ | refine LG.st_or ?_ | refine LG.st_not ?_ | refine LG.st_andV ?_ | refine LG.st_orV ?_ | refine LG.st_notV ?_ | refine LG.st_ife ?_ | refine LG.st_isN ?_ | refine LG.st_notN ?_ | refine LG.st_chain ?_ | refine LG.st_B ?_
    | refine LG.st_un ?_ | refine LG.st_lc ?_ | refine LG.st_for ?_ | refine LG.st_yes ?_ | refine LG.st_gnil ?_ | refine LG.st_gcons ?_ | refine LG.st_gsub ?_ | refine LG.st_break ?_ | refine LG.st_cont ?_ | refine L2.iteT ?_ | refine L2.iteF ?_)
  | ((with_reducible refine' LG.st_var ?hx ?_); (case hx => rfl)) | ((with_reducible refine' LG.st_aug ?hx ?_); (case hx => rfl)) | ((with_reducible refine LG.st_eq ?hx ?_); (case hx => rfl)) | ((with_reducible refine LG.st_ne ?hx ?_); (case hx => rfl)) | ((with_reducible refine LG.st_wipe ?hx ?_); (case hx => rfl))
  | ((with_reducible refine LG.st_I ?hx ?_); (case hx => close_w))
  | ((with_reducible refine LG.st_rj ?hx ?hy ?_); (case hx => omega); (case hy => omega)) | ((with_reducible refine LG.st_rb ?hx ?hy ?_); (case hx => omega); (case hy => omega)) | ((with_reducible refine LG.st_rij ?hx ?_); (case hx => omega))
  | (with_reducible first | refine LG.st_strs ?_ | refine LG.st_en ?_ | refine LG.st_enS ?_ | refine LG.st_dget ?_ | refine LG.st_dc ?_ | refine LG.st_lenSet ?_ | refine LG.st_disp ?_ | refine LG.st_pn ?_ | refine LG.st_pc ?_ | refine LG.st_call ?_)
  | (with_reducible first | refine LG.st_int1 ?_ | refine LG.st_ints ?_ | refine LG.st_ints2 ?_ | refine LG.st_int1b ?_)
  | ((with_reducible refine' LG.st_ixT ?hx ?hy ?_); (case hx => first | (with_reducible assumption) | exact L2.SqT.of (by with_reducible assumption)); (case hy => rfl))
  | ((with_reducible refine' LG.st_ixL ?hx ?hy ?_); (case hx => first | (with_reducible assumption) | exact L2.SqL.of (by with_reducible assumption)); (case hy => rfl))
  | ((with_reducible refine' LG.st_lenT ?hx ?_); (case hx => first | (with_reducible assumption) | exact L2.SqT.of (by with_reducible assumption)))
  | ((with_reducible refine' LG.st_lenL ?hx ?_); (case hx => first | (with_reducible assumption) | exact L2.SqL.of (by with_reducible assumption)))
  | ((with_reducible refine' LG.st_srcT ?hx ?_); (case hx => first | (with_reducible assumption) | exact L2.SqT.of (by with_reducible assumption)))
  | ((with_reducible refine' LG.st_srcE ?hx ?_); (case hx => first | (with_reducible assumption) | exact L2.SqT.of (by with_reducible assumption)))
  | ((with_reducible refine' LG.st_srcE1 ?hx ?_); (case hx => first | (with_reducible assumption) | exact L2.SqT.of (by with_reducible assumption)))
  | ((with_reducible refine' LG.st_srcL ?hx ?_); (case hx => first | (with_reducible assumption) | exact L2.SqL.of (by with_reducible assumption)))
  | ((with_reducible refine LG.st_room ?hx ?_); (case hx => first | (simp only [List.length_cons, List.length_nil]; omega) | simp))
  | ((with_reducible refine' LG.st_rTup ?hx ?_); (case hx => first | (with_reducible assumption) | exact L2.SqL.of (by with_reducible assumption)))
  | ((with_reducible refine' LG.st_rTupF ?hx ?_); (case hx => first | (with_reducible assumption) | exact L2.SqL.of (by with_reducible assumption)))
  | ((with_reducible refine' LG.st_rList ?hx ?_); (case hx => first | (with_reducible assumption) | exact L2.SqT.of (by with_reducible assumption)))
  | ((with_reducible refine' LG.st_rSl ?hx ?_); (case hx => first | (with_reducible assumption) | exact L2.SqL.of (by with_reducible assumption)))
  | ((with_reducible refine' LG.st_rCut ?hx ?_); (case hx => first | (with_reducible assumption) | exact L2.SqT.of (by with_reducible assumption)))
  | ((with_reducible refine' LG.st_tyL ?hx ?_); (case hx => with_reducible assumption))
))
local macro_rules | `(tactic| w_fin) => `(tactic| repeat w_left)
namespace Lw
open PySem PySem.Spec PyProof.Rows L2 LG
/-! ### numbers in the order in which kinds come first -/
theorem perm_subA {α : Type} [DecidableEq α] : ∀ {l m : List α}, l.Nodup → (∀ z ∈ l, z ∈ m) → m.length ≤ l.length → l.Perm m
  | [], m, _, _, h => by
    have : m = [] := List.length_eq_zero_iff.mp (Nat.le_zero.mp h)
    rw [this]
  | a :: l, m, nd, s, h => by
    have am := s a List.mem_cons_self
    have nd2 := List.nodup_cons.mp nd
    refine List.Perm.trans (List.Perm.cons a (perm_subA (m := m.erase a) nd2.2 (fun z hz => ?_) ?_)) (List.perm_cons_erase am).symm
    · exact (List.mem_erase_of_ne (fun e => nd2.1 (by rw [← e]; exact hz))).mpr (s z (List.mem_cons_of_mem _ hz))
    · rw [List.length_erase_of_mem am]
      rw [List.length_cons] at h
      omega
theorem len_sub {α : Type} [DecidableEq α] {l m : List α} (nd : l.Nodup) (s : ∀ z ∈ l, z ∈ m) : l.length ≤ m.length := by
  rcases Nat.le_total m.length l.length with h | h
  · exact Nat.le_of_eq (perm_subA nd s h).length_eq
  · exact h
/-- the different ones of the first t, as they come -/
def kF (f : Nat → List Int) : Nat → List (List Int)
  | 0 => []
  | t + 1 => if f t ∈ kF f t then kF f t else kF f t ++ [f t]
theorem mem_kF {f : Nat → List Int} : ∀ {t : Nat} {x : List Int}, x ∈ kF f t ↔ ∃ i, i < t ∧ f i = x
  | 0, x => by simp [kF]
  | t + 1, x => by
    unfold kF
    by_cases q : f t ∈ kF f t
    · rw [if_pos q, mem_kF]
      constructor
      · rintro ⟨i, hi, e⟩
        exact ⟨i, by omega, e⟩
      · rintro ⟨i, hi, e⟩
        by_cases r : i = t
        · subst r
          rw [e] at q
          exact mem_kF.mp q
        · exact ⟨i, by omega, e⟩
    · rw [if_neg q, List.mem_append, mem_kF, List.mem_singleton]
      constructor
      · rintro (⟨i, hi, e⟩ | e)
        · exact ⟨i, by omega, e⟩
        · exact ⟨t, by omega, e.symm⟩
      · rintro ⟨i, hi, e⟩
        by_cases r : i = t
        · subst r
          exact .inr e.symm
        · exact .inl ⟨i, by omega, e⟩
theorem kF_nodup {f : Nat → List Int} : ∀ t : Nat, (kF f t).Nodup
  | 0 => List.nodup_nil
  | t + 1 => by
    have ih := kF_nodup (f := f) t
    unfold kF
    by_cases q : f t ∈ kF f t
    · rw [if_pos q]; exact ih
    · rw [if_neg q, List.nodup_append]
      refine ⟨ih, by simp, fun a ha b hb => ?_⟩
      rw [List.mem_singleton.mp hb]
      exact fun e => q (by rw [← e]; exact ha)
theorem kF_len {f : Nat → List Int} : ∀ t : Nat, (kF f t).length ≤ t
  | 0 => Nat.le_refl _
  | t + 1 => by
    have ih := kF_len (f := f) t
    unfold kF
    by_cases q : f t ∈ kF f t
    · rw [if_pos q]; omega
    · rw [if_neg q, List.length_append, List.length_singleton]; omega
theorem kF_pre {f : Nat → List Int} {t : Nat} : ∀ d : Nat, ∃ r, kF f (t + d) = kF f t ++ r
  | 0 => ⟨[], by simp⟩
  | d + 1 => by
    obtain ⟨r, e⟩ := kF_pre (f := f) (t := t) d
    show ∃ r, kF f (t + d + 1) = _
    rw [show kF f (t + d + 1) = if f (t + d) ∈ kF f (t + d) then kF f (t + d) else kF f (t + d) ++ [f (t + d)] from rfl]
    by_cases q : f (t + d) ∈ kF f (t + d)
    · rw [if_pos q]; exact ⟨r, e⟩
    · rw [if_neg q, e]; exact ⟨r ++ [f (t + d)], by rw [List.append_assoc]⟩
def lab (f : Nat → List Int) (t i : Nat) : Nat := (kF f t).idxOf (f i)
theorem lab_mem {f : Nat → List Int} {t i : Nat} (h : i < t) : f i ∈ kF f t := mem_kF.mpr ⟨i, h, rfl⟩
theorem lab_lt {f : Nat → List Int} {t i : Nat} (h : i < t) : lab f t i < (kF f t).length := List.idxOf_lt_length_iff.mpr (lab_mem h)
theorem lab_more {f : Nat → List Int} {t u i : Nat} (h : i < t) (hu : t ≤ u) : lab f u i = lab f t i := by
  obtain ⟨r, e⟩ := kF_pre (f := f) (t := t) (u - t)
  rw [show t + (u - t) = u by omega] at e
  unfold lab
  rw [e, List.idxOf_append, if_pos (lab_mem h)]
theorem lab_get {f : Nat → List Int} {t i : Nat} (h : i < t) : (kF f t)[lab f t i]? = some (f i) := by
  have l := lab_lt (f := f) h
  rw [List.getElem?_eq_getElem l]
  exact congrArg some (List.getElem_idxOf l)
theorem lab_eq {f : Nat → List Int} {t i j : Nat} (hi : i < t) (hj : j < t) : lab f t i = lab f t j ↔ f i = f j := by
  constructor
  · intro e
    have a := lab_get (f := f) hi
    have b := lab_get (f := f) hj
    rw [e, b] at a
    exact (Option.some.inj a).symm
  · intro e
    unfold lab
    rw [e]
theorem nodup_at {α : Type} {l : List α} (nd : l.Nodup) {a b : Nat} {x : α} (ha : l[a]? = some x) (hb : l[b]? = some x) : a = b := by
  obtain ⟨la, ea⟩ := List.getElem?_eq_some_iff.mp ha
  obtain ⟨lb, eb⟩ := List.getElem?_eq_some_iff.mp hb
  have p := List.pairwise_iff_getElem.mp nd
  rcases Nat.lt_trichotomy a b with q | q | q
  · exact absurd (ea.trans eb.symm) (p a b la lb q)
  · exact q
  · exact absurd (eb.trans ea.symm) (p b a lb la q)
theorem lab_onto {f : Nat → List Int} {t c : Nat} (h : c < (kF f t).length) : ∃ i, i < t ∧ lab f t i = c := by
  obtain ⟨i, hi, e⟩ := mem_kF.mp (List.getElem_mem h)
  exact ⟨i, hi, nodup_at (kF_nodup t) (x := f i) (lab_get hi) (by rw [List.getElem?_eq_getElem h, e])⟩
theorem lab_congr {f g : Nat → List Int} {n : Nat} (h : ∀ i j, i < n → j < n → (f i = f j ↔ g i = g j)) : ∀ t : Nat, t ≤ n → (kF f t).length = (kF g t).length ∧ ∀ i, i < t → lab f t i = lab g t i
  | 0, _ => ⟨rfl, fun i hi => absurd hi (Nat.not_lt_zero i)⟩
  | t + 1, ht => by
    obtain ⟨l, a⟩ := lab_congr h t (by omega)
    have same : f t ∈ kF f t ↔ g t ∈ kF g t := by
      rw [mem_kF, mem_kF]
      constructor
      · rintro ⟨i, hi, e⟩
        exact ⟨i, hi, (h i t (by omega) (by omega)).mp e⟩
      · rintro ⟨i, hi, e⟩
        exact ⟨i, hi, (h i t (by omega) (by omega)).mpr e⟩
    have old : ∀ i, i < t → lab f (t + 1) i = lab g (t + 1) i := fun i hi => (lab_more hi (by omega)).trans ((a i hi).trans (lab_more hi (by omega)).symm)
    by_cases q : f t ∈ kF f t
    · have q2 := same.mp q
      refine ⟨?_, fun i hi => ?_⟩
      · show (kF f (t + 1)).length = (kF g (t + 1)).length
        unfold kF
        rw [if_pos q, if_pos q2]
        exact l
      · by_cases r : i = t
        · subst r
          obtain ⟨k, hk, e⟩ := mem_kF.mp q
          rw [(lab_eq (f := f) (t := i + 1) (j := k) (by omega) (by omega)).mpr e.symm, (lab_eq (f := g) (t := i + 1) (j := k) (by omega) (by omega)).mpr ((h k i (by omega) (by omega)).mp e).symm]
          exact old k hk
        · exact old i (by omega)
    · have q2 : ¬ g t ∈ kF g t := fun z => q (same.mpr z)
      refine ⟨?_, fun i hi => ?_⟩
      · show (kF f (t + 1)).length = (kF g (t + 1)).length
        unfold kF
        rw [if_neg q, if_neg q2, List.length_append, List.length_append, l]
        rfl
      · by_cases r : i = t
        · subst r
          unfold lab kF
          rw [if_neg q, if_neg q2, List.idxOf_append, if_neg q, List.idxOf_append, if_neg q2, l]
          simp
        · exact old i (by omega)
/-- one division is finer: what it makes of the other -/
theorem finer {f g : Nat → List Int} {n : Nat} (h : ∀ i j, i < n → j < n → f i = f j → g i = g j) : ∃ u : List Int → List Int, ∀ i, i < n → u (f i) = g i := by
  refine ⟨fun y => g (((List.range n).map f).idxOf y), fun i hi => ?_⟩
  have m : f i ∈ (List.range n).map f := List.mem_map.mpr ⟨i, List.mem_range.mpr hi, rfl⟩
  have l := List.idxOf_lt_length_iff.mpr m
  have e := List.getElem_idxOf l
  rw [List.getElem_map, List.getElem_range] at e
  rw [List.length_map, List.length_range] at l
  exact h _ i l hi e
theorem cnt_le {f g : Nat → List Int} {n : Nat} (h : ∀ i j, i < n → j < n → f i = f j → g i = g j) : (kF g n).length ≤ (kF f n).length := by
  obtain ⟨u, hu⟩ := finer h
  have := len_sub (l := kF g n) (m := (kF f n).map u) (kF_nodup n) fun z hz => by
    obtain ⟨i, hi, rfl⟩ := mem_kF.mp hz
    exact List.mem_map.mpr ⟨f i, lab_mem hi, hu i hi⟩
  rwa [List.length_map] at this
theorem cnt_eq {f g : Nat → List Int} {n : Nat} (h : ∀ i j, i < n → j < n → f i = f j → g i = g j) (e : (kF f n).length ≤ (kF g n).length) {i j : Nat} (hi : i < n) (hj : j < n) (q : g i = g j) : f i = f j := by
  obtain ⟨u, hu⟩ := finer h
  have p := perm_subA (l := kF g n) (m := (kF f n).map u) (kF_nodup n) (fun z hz => by
    obtain ⟨i, hi, rfl⟩ := mem_kF.mp hz
    exact List.mem_map.mpr ⟨f i, lab_mem hi, hu i hi⟩) (by rw [List.length_map]; exact e)
  have nd : ((kF f n).map u).Nodup := (List.Perm.nodup_iff p).mp (kF_nodup n)
  have a := lab_get (f := f) hi
  have b := lab_get (f := f) hj
  have s := nodup_at nd (x := g i) (a := lab f n i) (b := lab f n j) (by rw [List.getElem?_map, a, Option.map_some, hu i hi]) (by rw [List.getElem?_map, b, Option.map_some, hu j hj, q])
  exact (lab_eq hi hj).mp s
section
variable (n D : Nat) (inp : Bool → Nat → Int) (nb : Nat → Bool → Nat → Nat)
/-- what tells a node apart: its number, and those of the nodes behind its edges -/
def keyS (K : Bool → Nat → Nat) (sd : Bool) (i : Nat) : List Int := (K sd i : Int) :: (List.range D).map fun j => ((K (!sd) (nb j sd i) : Nat) : Int)
def src : Nat → Bool → Nat → List Int
  | 0 => fun sd i => [inp sd i]
  | k + 1 => keyS D nb fun sd i => lab (src k sd) n i
/-- the number of a node's kind after k turns -/
def kin (k : Nat) (sd : Bool) (i : Nat) : Nat := lab (src n D inp nb k sd) n i
def cn (k : Nat) : Nat := (kF (src n D inp nb k true) n).length + (kF (src n D inp nb k false) n).length
end
section
variable {n D : Nat} {inp : Bool → Nat → Int} {nb : Nat → Bool → Nat → Nat}
theorem keyS_eq {K : Bool → Nat → Nat} {sd : Bool} {i j : Nat} : keyS D nb K sd i = keyS D nb K sd j ↔ K sd i = K sd j ∧ ∀ c, c < D → K (!sd) (nb c sd i) = K (!sd) (nb c sd j) := by
  unfold keyS
  rw [List.cons.injEq]
  constructor
  · rintro ⟨a, b⟩
    refine ⟨by omega, fun c hc => ?_⟩
    have := congrArg (fun l : List Int => l[c]?) b
    simp only [List.getElem?_map, List.getElem?_range hc, Option.map_some, Option.some.injEq] at this
    omega
  · rintro ⟨a, b⟩
    refine ⟨by rw [a], List.map_congr_left fun c hc => ?_⟩
    rw [b c (List.mem_range.mp hc)]
theorem keyS_congr {K L : Bool → Nat → Nat} (lt : ∀ c sd i, c < D → i < n → nb c sd i < n) (h : ∀ sd i, i < n → K sd i = L sd i) {sd : Bool} {i : Nat} (hi : i < n) : keyS D nb K sd i = keyS D nb L sd i := by
  unfold keyS
  rw [h sd i hi]
  congr 1
  refine List.map_congr_left fun c hc => ?_
  rw [h (!sd) _ (lt c sd i (List.mem_range.mp hc) hi)]
theorem src_finer {k : Nat} {sd : Bool} {i j : Nat} (hi : i < n) (hj : j < n) (e : src n D inp nb (k + 1) sd i = src n D inp nb (k + 1) sd j) : src n D inp nb k sd i = src n D inp nb k sd j :=
  (lab_eq hi hj).mp (keyS_eq.mp e).1
theorem cn_le : cn n D inp nb k ≤ 2 * n := by
  unfold cn
  have a := kF_len (f := src n D inp nb k true) n
  have b := kF_len (f := src n D inp nb k false) n
  omega
theorem kF_pos {f : Nat → List Int} {t : Nat} (h : 1 ≤ t) : 1 ≤ (kF f t).length := Nat.lt_of_le_of_lt (Nat.zero_le _) (lab_lt (f := f) (i := 0) h)
theorem cn_two (h : 1 ≤ n) : 2 ≤ cn n D inp nb k := by
  unfold cn
  have a := kF_pos (f := src n D inp nb k true) h
  have b := kF_pos (f := src n D inp nb k false) h
  omega
/-- no more kinds: the same kinds -/
theorem kin_same {k : Nat} (h : cn n D inp nb (k + 1) ≤ cn n D inp nb k) {sd : Bool} {i : Nat} (hi : i < n) : kin n D inp nb (k + 1) sd i = kin n D inp nb k sd i := by
  have le : ∀ sd, (kF (src n D inp nb k sd) n).length ≤ (kF (src n D inp nb (k + 1) sd) n).length := fun sd => cnt_le fun i j hi hj e => src_finer hi hj e
  have ge : ∀ sd, (kF (src n D inp nb (k + 1) sd) n).length ≤ (kF (src n D inp nb k sd) n).length := fun sd => by
    have a := le true
    have b := le false
    unfold cn at h
    cases sd <;> omega
  exact (lab_congr (fun i j hi hj => ⟨src_finer hi hj, cnt_eq (fun i j hi hj e => src_finer hi hj e) (ge sd) hi hj⟩) n (Nat.le_refl _)).2 i hi
theorem kin_stay (lt : ∀ c sd i, c < D → i < n → nb c sd i < n) {k : Nat} (h : ∀ sd i, i < n → kin n D inp nb (k + 1) sd i = kin n D inp nb k sd i) : ∀ d sd i, i < n → kin n D inp nb (k + d) sd i = kin n D inp nb k sd i
  | 0, _, _, _ => rfl
  | d + 1, sd, i, hi => by
    have ih := kin_stay lt h d
    rw [← h sd i hi]
    refine (lab_congr (n := n) (fun i j hi hj => ?_) n (Nat.le_refl _)).2 i hi
    show keyS D nb (kin n D inp nb (k + d)) sd i = keyS D nb (kin n D inp nb (k + d)) sd j ↔ keyS D nb (kin n D inp nb k) sd i = keyS D nb (kin n D inp nb k) sd j
    rw [keyS_congr lt ih hi, keyS_congr lt ih hj]
theorem cn_mono (k : Nat) : cn n D inp nb k ≤ cn n D inp nb (k + 1) := by
  have le : ∀ sd, (kF (src n D inp nb k sd) n).length ≤ (kF (src n D inp nb (k + 1) sd) n).length := fun sd => cnt_le fun i j hi hj e => src_finer hi hj e
  unfold cn
  have a := le true
  have b := le false
  omega
/-- after 2n turns nothing changes any more -/
theorem kin_end (n1 : 1 ≤ n) (lt : ∀ c sd i, c < D → i < n → nb c sd i < n) : ∃ k, k ≤ 2 * n ∧ ∀ sd i, i < n → kin n D inp nb (k + 1) sd i = kin n D inp nb k sd i := by
  by_cases q : ∃ k, k ≤ 2 * n ∧ cn n D inp nb (k + 1) ≤ cn n D inp nb k
  · obtain ⟨k, hk, e⟩ := q
    exact ⟨k, hk, fun sd i hi => kin_same e hi⟩
  · have grow : ∀ k, k ≤ 2 * n → k + 2 ≤ cn n D inp nb k := by
      intro k
      induction k with
      | zero => intro _; exact cn_two n1
      | succ k ih =>
        intro hk
        have a := ih (by omega)
        have b : ¬ cn n D inp nb (k + 1) ≤ cn n D inp nb k := fun z => q ⟨k, by omega, z⟩
        omega
    have a := grow (2 * n) (Nat.le_refl _)
    have b := cn_le (n := n) (D := D) (inp := inp) (nb := nb) (k := 2 * n)
    omega
/-- any two ends are alike -/
theorem kin_ends (n1 : 1 ≤ n) (lt : ∀ c sd i, c < D → i < n → nb c sd i < n) {k : Nat} (h : ∀ sd i, i < n → kin n D inp nb (k + 1) sd i = kin n D inp nb k sd i) {m : Nat} (hm : k ≤ m ∨ 2 * n ≤ m) {sd : Bool} {i : Nat} (hi : i < n) : kin n D inp nb m sd i = kin n D inp nb k sd i := by
  rcases hm with hm | hm
  · have := kin_stay lt h (m - k) sd i hi
    rwa [show k + (m - k) = m by omega] at this
  · rcases Nat.le_total k m with q | q
    · have := kin_stay lt h (m - k) sd i hi
      rwa [show k + (m - k) = m by omega] at this
    · obtain ⟨e, he, hs⟩ := kin_end (D := D) (inp := inp) n1 lt
      have a := kin_stay lt hs (m - e) sd i hi
      have b := kin_stay lt hs (k - e) sd i hi
      rw [show e + (m - e) = m by omega] at a
      rw [show e + (k - e) = k by omega] at b
      rw [a, b]
end
/-! ### the network of the kinds -/
theorem lab_id {f : Nat → List Int} {n : Nat} (h : ∀ i j, i < n → j < n → f i = f j → i = j) : ∀ t : Nat, t ≤ n → (kF f t).length = t ∧ ∀ i, i < t → lab f t i = i
  | 0, _ => ⟨rfl, fun i hi => absurd hi (Nat.not_lt_zero i)⟩
  | t + 1, ht => by
    obtain ⟨l, a⟩ := lab_id h t (by omega)
    have q : ¬ f t ∈ kF f t := fun z => by
      obtain ⟨i, hi, e⟩ := mem_kF.mp z
      have := h i t (by omega) (by omega) e
      omega
    have e : kF f (t + 1) = kF f t ++ [f t] := by
      rw [show kF f (t + 1) = if f t ∈ kF f t then kF f t else kF f t ++ [f t] from rfl, if_neg q]
    refine ⟨by rw [e, List.length_append, l]; rfl, fun i hi => ?_⟩
    by_cases r : i = t
    · subst r
      unfold lab
      rw [e, List.idxOf_append, if_neg q, l]
      simp
    · rw [lab_more (t := t) (by omega) (by omega)]
      exact a i (by omega)
section
variable {n D : Nat} {inp : Bool → Nat → Int} {nb : Nat → Bool → Nat → Nat}
theorem src_inp : ∀ {k : Nat} {sd : Bool} {i j : Nat}, i < n → j < n → src n D inp nb k sd i = src n D inp nb k sd j → inp sd i = inp sd j
  | 0, _, _, _, _, _, e => by
    have : [inp _ _] = [inp _ _] := e
    exact (List.cons.inj this).1
  | k + 1, _, _, _, hi, hj, e => src_inp hi hj (src_finer hi hj e)
theorem st_inp {k : Nat} {sd : Bool} {i j : Nat} (hi : i < n) (hj : j < n) (e : kin n D inp nb k sd i = kin n D inp nb k sd j) : inp sd i = inp sd j := src_inp hi hj ((lab_eq hi hj).mp e)
theorem end_same (n1 : 1 ≤ n) (lt : ∀ c sd i, c < D → i < n → nb c sd i < n) {sd : Bool} {i : Nat} (hi : i < n) : kin n D inp nb (2 * n + 1) sd i = kin n D inp nb (2 * n) sd i := by
  obtain ⟨k, hk, h⟩ := kin_end (D := D) (inp := inp) n1 lt
  rw [kin_ends n1 lt h (.inr (by omega)) hi, kin_ends n1 lt h (.inr (Nat.le_refl _)) hi]
theorem st_nb (n1 : 1 ≤ n) (lt : ∀ c sd i, c < D → i < n → nb c sd i < n) {sd : Bool} {i j : Nat} (hi : i < n) (hj : j < n) (e : kin n D inp nb (2 * n) sd i = kin n D inp nb (2 * n) sd j) {c : Nat} (hc : c < D) :
    kin n D inp nb (2 * n) (!sd) (nb c sd i) = kin n D inp nb (2 * n) (!sd) (nb c sd j) := by
  rw [← end_same n1 lt hi, ← end_same n1 lt hj] at e
  exact (keyS_eq.mp ((lab_eq hi hj).mp e)).2 c hc
/-- how many kinds a side has -/
def cK (n D : Nat) (inp : Bool → Nat → Int) (nb : Nat → Bool → Nat → Nat) (sd : Bool) : Nat := (kF (src n D inp nb (2 * n) sd) n).length
theorem kin_lt {sd : Bool} {i : Nat} (hi : i < n) : kin n D inp nb (2 * n) sd i < cK n D inp nb sd := lab_lt hi
theorem kin_onto {sd : Bool} {c : Nat} (h : c < cK n D inp nb sd) : ∃ i, i < n ∧ kin n D inp nb (2 * n) sd i = c := lab_onto h
theorem cK_le {sd : Bool} : cK n D inp nb sd ≤ n := kF_len n
theorem cK_half (n1 : 1 ≤ n) (D1 : 1 ≤ D) (lt : ∀ c sd i, c < D → i < n → nb c sd i < n) (inv : ∀ c sd i, c < D → i < n → nb c (!sd) (nb c sd i) = i) (sd : Bool) : cK n D inp nb (!sd) ≤ cK n D inp nb sd := by
  have a := cnt_le (f := src n D inp nb (2 * n) sd) (g := fun i => src n D inp nb (2 * n) (!sd) (nb 0 sd i)) (n := n) fun i j hi hj e =>
    (lab_eq (lt 0 sd i (by omega) hi) (lt 0 sd j (by omega) hj)).mp (st_nb n1 lt hi hj ((lab_eq hi hj).mpr e) (c := 0) (by omega))
  refine Nat.le_trans (len_sub (kF_nodup n) fun z hz => ?_) a
  obtain ⟨i, hi, rfl⟩ := mem_kF.mp hz
  have e := inv 0 (!sd) i (by omega) hi
  rw [Bool.not_not] at e
  exact mem_kF.mpr ⟨nb 0 (!sd) i, lt 0 (!sd) i (by omega) hi, by rw [e]⟩
theorem cK_same (n1 : 1 ≤ n) (D1 : 1 ≤ D) (lt : ∀ c sd i, c < D → i < n → nb c sd i < n) (inv : ∀ c sd i, c < D → i < n → nb c (!sd) (nb c sd i) = i) : cK n D inp nb true = cK n D inp nb false :=
  Nat.le_antisymm (cK_half n1 D1 lt inv false) (cK_half n1 D1 lt inv true)
/-- a network whose nodes are the kinds has no two alike -/
theorem base_kin {m : Nat} {inp' : Bool → Nat → Int} {nb' : Nat → Bool → Nat → Nat} (m1 : 1 ≤ m) (lt : ∀ c sd i, c < D → i < n → nb c sd i < n) (lt' : ∀ c sd i, c < D → i < m → nb' c sd i < m)
    (small : ∀ sd i, i < n → kin n D inp nb (2 * n) sd i < m) (onto : ∀ sd c, c < m → ∃ i, i < n ∧ kin n D inp nb (2 * n) sd i = c)
    (hinp : ∀ sd i, i < n → inp' sd (kin n D inp nb (2 * n) sd i) = inp sd i) (hnb : ∀ c sd i, c < D → i < n → nb' c sd (kin n D inp nb (2 * n) sd i) = kin n D inp nb (2 * n) (!sd) (nb c sd i))
    {sd : Bool} {c : Nat} (hc : c < m) : kin m D inp' nb' (2 * m) sd c = c := by
  have key : ∀ (k : Nat) (sd : Bool) (i j : Nat), i < n → j < n → kin m D inp' nb' (2 * m) sd (kin n D inp nb (2 * n) sd i) = kin m D inp' nb' (2 * m) sd (kin n D inp nb (2 * n) sd j) → src n D inp nb k sd i = src n D inp nb k sd j := by
    intro k
    induction k with
    | zero =>
      intro sd i j hi hj e
      have := st_inp (small sd i hi) (small sd j hj) e
      rw [hinp sd i hi, hinp sd j hj] at this
      show [inp sd i] = [inp sd j]
      rw [this]
    | succ k ih =>
      intro sd i j hi hj e
      refine keyS_eq.mpr ⟨(lab_eq hi hj).mpr (ih sd i j hi hj e), fun c hc => ?_⟩
      refine (lab_eq (lt c sd i hc hi) (lt c sd j hc hj)).mpr (ih (!sd) _ _ (lt c sd i hc hi) (lt c sd j hc hj) ?_)
      rw [← hnb c sd i hc hi, ← hnb c sd j hc hj]
      exact st_nb m1 lt' (small sd i hi) (small sd j hj) e hc
  refine (lab_id (n := m) (fun a b ha hb e => ?_) m (Nat.le_refl _)).2 c hc
  obtain ⟨i, hi, rfl⟩ := onto sd a ha
  obtain ⟨j, hj, rfl⟩ := onto sd b hb
  exact (lab_eq hi hj).mpr (key (2 * n) sd i j hi hj ((lab_eq (small sd i hi) (small sd j hj)).mpr e))
end
end Lw
namespace Lw
open PySem PySem.Spec PyProof.Rows L2 LG
def top (i : Nat) : Stmt := PySem.Challenge.pw_looksfar_k35_kinds.main.body.getD i (.Pass ⟨0, 0, 0, 0⟩)
abbrev sis_number : Stmt := top 4
abbrev sother_side : Stmt := top 10
abbrev sis_network : Stmt := top 13
abbrev sis_order : Stmt := top 14
abbrev sends_of : Stmt := top 15
abbrev sinputs_of : Stmt := top 16
abbrev s_are_numbers : Stmt := top 17
abbrev scheck_plain : Stmt := top 19
abbrev skinds : Stmt := top 20
abbrev sbase_of : Stmt := top 21
abbrev s_numbered : Stmt := top 22
abbrev s_signs : Stmt := top 23
abbrev s_inputs_at : Stmt := top 24
abbrev s_count : Stmt := top 25
abbrev s_law_draws : Stmt := top 27
abbrev s_law_take : Stmt := top 28
abbrev s_law_whole : Stmt := top 29
abbrev s_law_like : Stmt := top 30
abbrev s_law_order : Stmt := top 31
abbrev s_law_network : Stmt := top 32
abbrev s_law_wrong_network : Stmt := top 33
abbrev s_law_behind : Stmt := top 34
abbrev s_law_branch : Stmt := top 35
abbrev s_law_kinds : Stmt := top 36
abbrev s_law_counted : Stmt := top 37
abbrev s_law_base : Stmt := top 38
abbrev s_law_cover : Stmt := top 39
abbrev s_law_turns : Stmt := top 40
abbrev s_law_mixed_up : Stmt := top 41
abbrev s_law_copies : Stmt := top 42
abbrev s_law_refused : Stmt := top 43
abbrev s_law_alike_views : Stmt := top 44
abbrev s_law_right : Stmt := top 45
abbrev s_law_asked : Stmt := top 46
abbrev slaw : Stmt := top 47
/-- the built-ins that the text uses -/
structure Blt (mg : Str → Option Value) : Prop where
  abs : mg "abs" = none
  int : mg "int" = none
  len : mg "len" = none
  range : mg "range" = none
  tuple : mg "tuple" = none
  isinstance : mg "isinstance" = none
  bool : mg "bool" = none
  list : mg "list" = none
  str : mg "str" = none
  all : mg "all" = none
  set : mg "set" = none
  max : mg "max" = none
  sum : mg "sum" = none
  enumerate : mg "enumerate" = none
/-- the module's constants -/
structure Cst (mg : Str → Option Value) : Prop where
  LEAST_COLOURS : ∃ t, mg "LEAST_COLOURS" = some (.int 2 t)
  MOST_COLOURS : ∃ t, mg "MOST_COLOURS" = some (.int 4 t)
  MOST_INPUTS : ∃ t, mg "MOST_INPUTS" = some (.int 4 t)
  MOST_NODES : ∃ t, mg "MOST_NODES" = some (.int 400 t)
theorem _root_.L2.Room.units2 {k : Nat} {A : Around} (r : L2.Room k A) : A.units + 65 < cLine := by have := r.un; omega
/-! ### what a task is -/
def isNum (d : PyData) (lo hi : Int) : Bool := match d with
  | .int i => decide (lo ≤ i) && decide (i ≤ hi)
  | _ => false
def isInt2 : PyData → Bool
  | .int _ => true
  | .bool _ => true
  | _ => false
def isBool : PyData → Bool
  | .bool _ => true
  | _ => false
def isTup : PyData → Bool
  | .tuple _ => true
  | _ => false
theorem kit_int (d : PyData) : kitB (tyD d) "int" = some (isInt2 d) := by cases d <;> (simp only [tyD, isInt2]; decide +kernel)
theorem kit_bool (d : PyData) : kitB (tyD d) "bool" = some (isBool d) := by cases d <;> (simp only [tyD, isBool]; decide +kernel)
theorem kit_tup (d : PyData) : kitB (tyD d) "tuple" = some (isTup d) := by cases d <;> (simp only [tyD, isTup]; decide +kernel)
theorem isTup_of {d : PyData} (h : isTup d = true) : ∃ ds, d = .tuple ds := by
  cases d <;> first | exact ⟨_, rfl⟩ | cases h
/-- the number of an int -/
def numD : PyData → Int
  | .int i => i
  | _ => 0
/-- the ints of a tuple -/
def intsD : PyData → List Int
  | .tuple ds => ds.map numD
  | _ => []
theorem num_of {d : PyData} {lo hi : Int} (h : isNum d lo hi = true) : d = .int (numD d) ∧ lo ≤ numD d ∧ numD d ≤ hi := by
  cases d with
  | int i =>
    have h' : (decide (lo ≤ i) && decide (i ≤ hi)) = true := h
    rw [Bool.and_eq_true, decide_eq_true_eq, decide_eq_true_eq] at h'
    exact ⟨rfl, h'⟩
  | _ => cases h
section
variable {P : Program} {w : World} {K : PySem.W.Frag} {mg : Str → Option Value} {base : Heap}
theorem ints_vs {M : Addr → Prop} {H : Hp} : ∀ {ls : List Int} {xs : List V}, DnAll M K H xs (ls.map PyData.int) → xs = ls.map V.int
  | [], _, h => by
    cases h
    rfl
  | l :: ls, _, h => by
    cases h with
    | cons h1 h2 =>
      cases h1
      rw [List.map_cons, ← ints_vs h2]
theorem st_isi {M : Addr → Prop} {H : Hp} {x : V} {d : PyData} {T : String} {b : Bool} {Q : VK} (hd : Dn M K H x d) (hk : kitB (tyD d) T = some b) (h : Q (.bl b) H) : rIsi K [x, .ty T] H Q := ⟨x, _, _, _, b, rfl, ClsV.ty _, hd.ty, kit_ty hk, h⟩
theorem itz_walk {a b : Addr} {xs ys : List V} {B : (Hp → Prop) → V → Hp → Prop} {H0 : Hp} {Qd : Hp → Prop} (hl : xs.length = ys.length) (Pv : Nat → Hp → Prop) (h0 : Pv 0 H0) (hq : ∀ i H, Pv i H → SqT K H a xs ∧ SqT K H b ys)
    (hs : ∀ (i : Nat) (x y : V) (T : Addr) (H : Hp), xs[i]? = some x → ys[i]? = some y → Pv i H → H T = none → B (Pv (i + 1)) (.ref T) (upd H T (.tup [x, y]))) (hd : ∀ H, Pv xs.length H → Qd H) :
    ∃ W : Nat → Nat → Hp → Prop, (∃ m, W 0 m H0) ∧ ∀ i m H, W i m H →
      ((RZ.ItzT K a b).stop i H ∧ Qd H) ∨ ((RZ.ItzT K a b).go i H ∧ ∃ Nx : Hp → Prop, (∀ H', Nx H' → ∃ m', m' < m ∧ W (i + 1) m' H') ∧ ∀ x H', (RZ.ItzT K a b).yld i H x H' → B Nx x H') := by
  refine ⟨fun i m H => m = xs.length - i ∧ i ≤ xs.length ∧ Pv i H, ⟨xs.length, rfl, Nat.zero_le _, h0⟩, ?_⟩
  rintro i m H ⟨rfl, hi, p⟩
  obtain ⟨qx, qy⟩ := hq i H p
  by_cases hlt : i < xs.length
  · have hx : xs[i]? = some xs[i] := List.getElem?_eq_getElem hlt
    have hlt2 : i < ys.length := by omega
    have hy : ys[i]? = some ys[i] := List.getElem?_eq_getElem hlt2
    refine .inr ⟨⟨xs, ys, _, _, qx, qy, hx, hy⟩, Pv (i + 1), fun H' p' => ⟨xs.length - (i + 1), by omega, rfl, hlt, p'⟩, fun v H' y => ?_⟩
    obtain ⟨T, x', y', rfl, hT, rfl, f1, f2⟩ := y
    exact hs i x' y' T H (f1 xs qx) (f2 ys qy) p hT
  · have e : i = xs.length := by omega
    subst e
    exact .inl ⟨⟨xs, ys, qx, qy, Or.inl (Nat.le_refl _)⟩, hd H p⟩
theorem itt_walk {a : Addr} {xs : List V} {B : (Hp → Prop) → V → Hp → Prop} {H0 : Hp} {Qd : Hp → Prop} (Pv : Nat → Hp → Prop) (h0 : Pv 0 H0) (hl : ∀ i H, i ≤ xs.length → Pv i H → SqT K H a xs)
    (hs : ∀ i x H, xs[i]? = some x → Pv i H → B (Pv (i + 1)) x H) (hd : ∀ H, Pv xs.length H → Qd H) :
    ∃ W : Nat → Nat → Hp → Prop, (∃ m, W 0 m H0) ∧ ∀ i m H, W i m H →
      ((Itt K a).stop i H ∧ Qd H) ∨ ((Itt K a).go i H ∧ ∃ Nx : Hp → Prop, (∀ H', Nx H' → ∃ m', m' < m ∧ W (i + 1) m' H') ∧ ∀ x H', (Itt K a).yld i H x H' → B Nx x H') := by
  refine ⟨fun i m H => m = xs.length - i ∧ i ≤ xs.length ∧ Pv i H, ⟨xs.length, by simp, Nat.zero_le _, h0⟩, ?_⟩
  rintro i m H ⟨rfl, hi, p⟩
  have q := hl i H hi p
  by_cases hlt : i < xs.length
  · refine .inr ⟨⟨xs, xs[i], q, by simp [hlt]⟩, Pv (i + 1), fun H' p' => ⟨xs.length - (i + 1), by omega, rfl, hlt, p'⟩, fun x H' y => ?_⟩
    obtain ⟨e, y⟩ := y
    subst e
    exact hs i x _ (y xs q) p
  · have e : i = xs.length := by omega
    subst e
    exact .inl ⟨⟨xs, q, Nat.le_refl _⟩, hd H p⟩
theorem itr_walk {lo : Int} {n : Nat} {B : (Hp → Prop) → V → Hp → Prop} {H0 : Hp} {Qd : Hp → Prop} (Pv : Nat → Hp → Prop) (h0 : Pv 0 H0)
    (hs : ∀ i H, i < n → Pv i H → B (Pv (i + 1)) (.int (lo + i)) H) (hd : ∀ H, Pv n H → Qd H) :
    ∃ W : Nat → Nat → Hp → Prop, (∃ m, W 0 m H0) ∧ ∀ i m H, W i m H →
      ((Itr lo n).stop i H ∧ Qd H) ∨ ((Itr lo n).go i H ∧ ∃ Nx : Hp → Prop, (∀ H', Nx H' → ∃ m', m' < m ∧ W (i + 1) m' H') ∧ ∀ x H', (Itr lo n).yld i H x H' → B Nx x H') := by
  refine ⟨fun i m H => m = n - i ∧ i ≤ n ∧ Pv i H, ⟨n, by simp, Nat.zero_le _, h0⟩, ?_⟩
  rintro i m H ⟨rfl, hi, p⟩
  by_cases hlt : i < n
  · refine .inr ⟨hlt, Pv (i + 1), fun H' p' => ⟨n - (i + 1), by omega, rfl, hlt, p'⟩, fun x H' y => ?_⟩
    obtain ⟨e, y⟩ := y
    subst e y
    exact hs i _ hlt p
  · have e : i = n := by omega
    subst e
    exact .inl ⟨Nat.le_refl _, hd H p⟩
theorem itl_walk {a : Addr} {xs : List V} {B : (Hp → Prop) → V → Hp → Prop} {H0 : Hp} {Qd : Hp → Prop} (Pv : Nat → Hp → Prop) (h0 : Pv 0 H0) (hl : ∀ i H, i ≤ xs.length → Pv i H → SqL K H a xs)
    (hs : ∀ i x H, xs[i]? = some x → Pv i H → B (Pv (i + 1)) x H) (hd : ∀ H, Pv xs.length H → Qd H) :
    ∃ W : Nat → Nat → Hp → Prop, (∃ m, W 0 m H0) ∧ ∀ i m H, W i m H →
      ((Itl K a).stop i H ∧ Qd H) ∨ ((Itl K a).go i H ∧ ∃ Nx : Hp → Prop, (∀ H', Nx H' → ∃ m', m' < m ∧ W (i + 1) m' H') ∧ ∀ x H', (Itl K a).yld i H x H' → B Nx x H') := by
  refine ⟨fun i m H => m = xs.length - i ∧ i ≤ xs.length ∧ Pv i H, ⟨xs.length, by simp, Nat.zero_le _, h0⟩, ?_⟩
  rintro i m H ⟨rfl, hi, p⟩
  have q := hl i H hi p
  by_cases hlt : i < xs.length
  · refine .inr ⟨⟨xs, xs[i], q, by simp [hlt]⟩, Pv (i + 1), fun H' p' => ⟨xs.length - (i + 1), by omega, rfl, hlt, p'⟩, fun x H' y => ?_⟩
    obtain ⟨e, y⟩ := y
    subst e
    exact hs i x _ (y xs q) p
  · have e : i = xs.length := by omega
    subst e
    exact .inl ⟨⟨xs, q, Nat.le_refl _⟩, hd H p⟩
theorem word_eqv (d : PyData) (x : Str) : PyData.eqv d (.str x) = match d with
    | .str y => decide (y = x)
    | _ => false := by
  cases d with
  | str y =>
    simp only [PyData.eqv]
    by_cases h : y = x
    · rw [decide_eq_true h, h]
      exact beq_self_eq_true x
    · rw [decide_eq_false h]
      exact beq_eq_false_iff_ne.mpr h
  | _ => simp [PyData.eqv]
end
def isStrB : PyData → Bool
  | .str _ => true
  | _ => false
theorem kit_str (d : PyData) : kitB (tyD d) "str" = some (isStrB d) := by cases d <;> (simp only [tyD, isStrB]; decide +kernel)
/-- what the law holds against what was told: tuples of numbers, None and the word -/
inductive Pl : PyData → Prop
  | non : Pl .none
  | int (i : Int) : Pl (.int i)
  | word (s : Str) (h : SeqAt.shaped (.str s) = true) : Pl (.str s)
  | tup {ds : List PyData} : (∀ d ∈ ds, Pl d) → ds.length ≤ 1000 → Pl (.tuple ds)
theorem deep_mem : ∀ {ds : List PyData} {d : PyData}, d ∈ ds → d.depth ≤ PyData.depthAll ds
  | x :: ds, d, h => by
    simp only [PyData.depthAll]
    rcases List.mem_cons.mp h with rfl | h
    · omega
    · have := deep_mem h
      omega
section
variable {P : Program} {w : World} {K : PySem.W.Frag} {mg : Str → Option Value} {base : Heap}
theorem lt_small {n : Nat} (h : n ≤ 100000) : n < sizeLine := Nat.lt_of_le_of_lt h (by decide)
theorem le_sz {n : Nat} (h : n ≤ 100000) : n ≤ sizeLine := Nat.le_of_lt (lt_small h)
theorem hand_out {H0 : Hp} {h d p : Addr} {ds : List Int} {n : Nat} (x : Hand H0 h d ds n) (hp : H0 p = none) : p ≠ h ∧ p ≠ d := ⟨(ne_of_none x.1 hp).symm, (ne_of_none x.2 hp).symm⟩
/-! ### rows that are tuples of their own -/
def RT (H : Hp) (v : V) (r : List Int) : Prop := ∃ t, v = .ref t ∧ H t = some (.tup (r.map V.int))
theorem RT.stay {H H' : Hp} {v : V} {r : List Int} (s : TupsStay H H') (h : RT H v r) : RT H' v r := by
  obtain ⟨t, rfl, e⟩ := h
  exact ⟨t, rfl, s _ _ (.inl ⟨_, rfl⟩) e⟩
theorem RT.dt {H : Hp} {v : V} {r : List Int} (h : RT H v r) : Dt K H v (tupI r) := by
  obtain ⟨t, rfl, e⟩ := h
  exact .tup (SqT.of e) (DtAll.ints r)
inductive RTs (H : Hp) : List V → List (List Int) → Prop
  | nil : RTs H [] []
  | cons {v : V} {vs : List V} {r : List Int} {rs : List (List Int)} : RT H v r → RTs H vs rs → RTs H (v :: vs) (r :: rs)
theorem RTs.stay {H H' : Hp} (s : TupsStay H H') : ∀ {vs : List V} {rs : List (List Int)}, RTs H vs rs → RTs H' vs rs
  | _, _, .nil => .nil
  | _, _, .cons h a => .cons (h.stay s) (a.stay s)
theorem RTs.len {H : Hp} : ∀ {vs : List V} {rs : List (List Int)}, RTs H vs rs → vs.length = rs.length
  | _, _, .nil => rfl
  | _, _, .cons _ a => by rw [List.length_cons, List.length_cons, a.len]
theorem RTs.app {H : Hp} : ∀ {vs ws : List V} {rs qs : List (List Int)}, RTs H vs rs → RTs H ws qs → RTs H (vs ++ ws) (rs ++ qs)
  | _, _, _, _, .nil, b => b
  | _, _, _, _, .cons h a, b => .cons h (a.app b)
theorem RTs.dt {H : Hp} : ∀ {vs : List V} {rs : List (List Int)}, RTs H vs rs → DtAll K H vs (rs.map tupI)
  | _, _, .nil => .nil
  | _, _, .cons h a => .cons h.dt a.dt
theorem RTs.of {H : Hp} : ∀ {vs : List V} {rs : List (List Int)} {i : Nat} {v : V}, RTs H vs rs → vs[i]? = some v → ∃ r, rs[i]? = some r ∧ RT H v r
  | _, _, _, _, .nil, e => by simp at e
  | _, _, 0, _, .cons h _, e => by simp at e; subst e; exact ⟨_, rfl, h⟩
  | _, _, i + 1, _, .cons _ a, e => by simpa using a.of (i := i) (by simpa using e)
theorem RTs.at {H : Hp} : ∀ {vs : List V} {rs : List (List Int)} {i : Nat} {r : List Int}, RTs H vs rs → rs[i]? = some r → ∃ v, vs[i]? = some v ∧ RT H v r
  | _, _, _, _, .nil, e => by simp at e
  | _, _, 0, _, .cons h _, e => by simp at e; subst e; exact ⟨_, rfl, h⟩
  | _, _, i + 1, _, .cons _ a, e => by simpa using a.at (i := i) (by simpa using e)
/-- sets of labels: addresses of lists, of tuples -/
inductive SLs (S : Addr → List V → Prop) : List V → List (List Int) → Prop
  | nil : SLs S [] []
  | cons {a : Addr} {vs : List V} {r : List Int} {rs : List (List Int)} : S a (r.map V.int) → SLs S vs rs → SLs S (.ref a :: vs) (r :: rs)
theorem SLs.imp {S S' : Addr → List V → Prop} (s : ∀ a xs, S a xs → S' a xs) : ∀ {vs : List V} {rs : List (List Int)}, SLs S vs rs → SLs S' vs rs
  | _, _, .nil => .nil
  | _, _, .cons h a => .cons (s _ _ h) (a.imp s)
theorem SLs.len {S : Addr → List V → Prop} : ∀ {vs : List V} {rs : List (List Int)}, SLs S vs rs → vs.length = rs.length
  | _, _, .nil => rfl
  | _, _, .cons _ a => by rw [List.length_cons, List.length_cons, a.len]
theorem SLs.app {S : Addr → List V → Prop} : ∀ {vs ws : List V} {rs qs : List (List Int)}, SLs S vs rs → SLs S ws qs → SLs S (vs ++ ws) (rs ++ qs)
  | _, _, _, _, .nil, b => b
  | _, _, _, _, .cons h a, b => .cons h (a.app b)
theorem SLs.of {S : Addr → List V → Prop} : ∀ {vs : List V} {rs : List (List Int)} {i : Nat} {v : V}, SLs S vs rs → vs[i]? = some v → ∃ a r, v = .ref a ∧ rs[i]? = some r ∧ S a (r.map V.int)
  | _, _, _, _, .nil, e => by simp at e
  | _, _, 0, _, .cons h _, e => by simp at e; subst e; exact ⟨_, _, rfl, rfl, h⟩
  | _, _, i + 1, _, .cons _ a, e => by simpa using a.of (i := i) (by simpa using e)
theorem SLs.at {S : Addr → List V → Prop} : ∀ {vs : List V} {rs : List (List Int)} {i : Nat} {r : List Int}, SLs S vs rs → rs[i]? = some r → ∃ a, vs[i]? = some (.ref a) ∧ S a (r.map V.int)
  | _, _, _, _, .nil, e => by simp at e
  | _, _, 0, _, .cons h _, e => by simp at e; subst e; exact ⟨_, rfl, h⟩
  | _, _, i + 1, _, .cons _ a, e => by simpa using a.at (i := i) (by simpa using e)
theorem SLs.take {S : Addr → List V → Prop} : ∀ {vs : List V} {rs : List (List Int)} (n : Nat), SLs S vs rs → SLs S (vs.take n) (rs.take n)
  | _, _, 0, _ => .nil
  | _, _, _ + 1, .nil => .nil
  | _, _, n + 1, .cons h a => .cons h (a.take n)
theorem SLs.drop {S : Addr → List V → Prop} : ∀ {vs : List V} {rs : List (List Int)} (n : Nat), SLs S vs rs → SLs S (vs.drop n) (rs.drop n)
  | _, _, 0, a => a
  | _, _, _ + 1, .nil => .nil
  | _, _, n + 1, .cons _ a => a.drop n
theorem SLs.set {S : Addr → List V → Prop} {b : Addr} {q : List Int} (h : S b (q.map V.int)) : ∀ {vs : List V} {rs : List (List Int)} (n : Nat), SLs S vs rs → SLs S (vs.set n (.ref b)) (rs.set n q)
  | _, _, _, .nil => .nil
  | _, _, 0, .cons _ a => .cons h a
  | _, _, n + 1, .cons h' a => .cons h' (a.set h n)
/-! ### a + b of such rows -/
def rPlusT : R2 := fun x y H Q => ∃ a b xs ys, x = .ref a ∧ y = .ref b ∧ H a = some (.tup xs) ∧ H b = some (.tup ys) ∧ xs.length + ys.length ≤ sizeLine ∧ ∀ p H', Same H H' → H' p = some (.tup (xs ++ ys)) → Q (.ref p) H'
theorem op_plusT {X : Cx} : OpR X (binaryOp .Add) rPlusT := by
  intro pins s σ H x y v u Q inv rx ry want
  obtain ⟨a, b, xs, ys, rfl, rfl, ha, hb, hz, q⟩ := want
  refine op_catA pins s σ H _ _ v u Q inv rx ry ⟨a, b, xs, ys, rfl, rfl, SqT.of ha, SqT.of hb, hz, fun e => q b H (Same.refl H) ?_, fun _ e => q a H (Same.refl H) ?_, fun _ _ p hp => q p _ (same_new hp _) upd_same⟩
  · rw [e]
    exact hb
  · rw [e, List.append_nil]
    exact ha
/-- a list of rows that grows -/
structure AccT (H0 : Hp) (q : Addr) (rs : List (List Int)) (H : Hp) : Prop where
  free : H0 q = none
  same : Same H0 H
  ex : ∃ acc, H q = some (.lst acc) ∧ RTs H acc rs
theorem AccT.start {H0 : Hp} {q : Addr} (h : H0 q = none) : AccT H0 q [] (upd H0 q (.lst [])) := ⟨h, same_new h _, [], upd_same, .nil⟩
theorem AccT.step {H0 H H' : Hp} {q : Addr} {rs : List (List Int)} (a : AccT H0 q rs H) (s : Same H H') : AccT H0 q rs H' := by
  obtain ⟨acc, e, d⟩ := a.ex
  exact ⟨a.free, a.same.trans s, acc, s _ _ e, d.stay s.tups⟩
theorem AccT.push {H0 H : Hp} {q : Addr} {rs : List (List Int)} {v : V} {r : List Int} (a : AccT H0 q rs H) (hv : RT H v r) : ∃ acc, H q = some (.lst acc) ∧ acc.length = rs.length ∧ AccT H0 q (rs ++ [r]) (upd H q (.lst (acc ++ [v]))) := by
  obtain ⟨acc, e, d0⟩ := a.ex
  have t := tups_lst (ys := acc ++ [v]) e
  exact ⟨acc, e, d0.len, a.free, same_own a.same a.free _, _, upd_same, (d0.stay t).app (.cons (hv.stay t) .nil)⟩
theorem eqv_all_i : ∀ a b : List Int, PyData.eqvAll (a.map PyData.int) (b.map PyData.int) = decide (a = b)
  | [], [] => by simp [PyData.eqvAll]
  | [], _ :: _ => by simp [PyData.eqvAll]
  | _ :: _, [] => by simp [PyData.eqvAll]
  | x :: a, y :: b => by
    rw [List.map_cons, List.map_cons, PyData.eqvAll, eqv_all_i a b]
    simp only [PyData.eqv]
    by_cases h : x = y
    · subst h
      simp
    · simp [h]
theorem eqv_i (a b : List Int) : PyData.eqv (tupI a) (tupI b) = decide (a = b) := by
  unfold tupI
  simp only [PyData.eqv]
  exact eqv_all_i a b
theorem any_i (rs : List (List Int)) (r : List Int) : ((rs.map tupI).any fun z => PyData.eqv z (tupI r)) = decide (r ∈ rs) := by
  rw [List.any_map]
  have e : ((fun z => PyData.eqv z (tupI r)) ∘ tupI) = fun a => decide (a = r) := by
    funext a
    exact eqv_i a r
  rw [e]
  induction rs with
  | nil => simp
  | cons a rs ih =>
    rw [List.any_cons, ih]
    by_cases h : a = r
    · simp [h]
    · have h' : ¬ r = a := fun z => h z.symm
      simp [h, h']
theorem lay_i : ∀ a : List Int, PyData.canLayAll0 (a.map PyData.int) = true
  | [] => by simp [PyData.canLayAll0]
  | x :: a => by
    rw [List.map_cons, PyData.canLayAll0, lay_i a]
    simp [PyData.canLay0]
theorem lay_t : ∀ rs : List (List Int), PyData.canLayAll0 (rs.map tupI) = true
  | [] => by simp [PyData.canLayAll0]
  | x :: a => by
    rw [List.map_cons, PyData.canLayAll0, lay_t a]
    unfold tupI
    simp only [PyData.canLay0]
    rw [lay_i]
    rfl
theorem dep_t : ∀ rs : List (List Int), PyData.depthAll (rs.map tupI) ≤ 1
  | [] => by simp [PyData.depthAll]
  | x :: a => by
    have := dep_t a
    rw [List.map_cons, PyData.depthAll, row_depth]
    omega
theorem shaped_i (r : List Int) : SeqAt.shaped (tupI r) = true := by
  unfold SeqAt.shaped
  rw [row_depth]
  unfold tupI
  simp only [PyData.canLay0]
  rw [lay_i]
  rfl
theorem shaped_l (rs : List (List Int)) : SeqAt.shaped (.list (rs.map tupI)) = true := by
  have e : (PyData.list (rs.map tupI)).depth ≤ 64 := by
    simp only [PyData.depth]
    have := dep_t rs
    omega
  unfold SeqAt.shaped
  rw [decide_eq_true e, Bool.and_true]
  simp only [PyData.canLay0]
  exact lay_t rs
theorem intsD_t (ns : List Int) : intsD (tupI ns) = ns := by
  show (ns.map PyData.int).map numD = ns
  rw [List.map_map]
  exact List.map_id'' (fun x => rfl) ns
theorem inV_int (z : Int) : ∀ ns : List Int, inV (.int z) (ns.map V.int) = decide (z ∈ ns)
  | [] => rfl
  | y :: ns => by
    have ih := inV_int z ns
    unfold inV at ih ⊢
    rw [List.map_cons, List.any_cons, ih]
    show (decide (y = z) || _) = _
    by_cases e : y = z
    · subst e
      simp
    · have e' : ¬ z = y := fun q => e q.symm
      simp [e, e']
theorem flat_ints (ns : List Int) : (ns.map V.int).all flatV = true := by simp [flatV]
/-- tuple(l) of a list; list(t) of a tuple -/
def rTupOfL (K : PySem.W.Frag) : List V → Hp → VK → Prop := fun vs H Q => ∃ (a : Addr) (xs : List V), vs = [.ref a] ∧ SqL K H a xs ∧ ∀ p, H p = none → Q (.ref p) (upd H p (.tup xs))
theorem call_tupL {X : Cx} : CallR X (.type "tuple") (rTupOfL X.K) := fun pins s σ H vs us Q J r want => by
  obtain ⟨a, xs, rfl, h1, q⟩ := want
  exact call_tuple_of pins s σ H _ us Q J r ⟨a, xs, rfl, .inl ⟨h1, q⟩⟩
def rListOfT (K : PySem.W.Frag) : List V → Hp → VK → Prop := fun vs H Q => ∃ (a : Addr) (xs : List V), vs = [.ref a] ∧ SqT K H a xs ∧ ∀ p, H p = none → Q (.ref p) (upd H p (.lst xs))
theorem call_listT {X : Cx} : CallR X (.type "list") (rListOfT X.K) := fun pins s σ H vs us Q J r want => by
  obtain ⟨a, xs, rfl, h1, q⟩ := want
  exact call_list_of pins s σ H _ us Q J r ⟨a, xs, rfl, .inr h1, q⟩
/-- x not in t -/
def rNotInTD (K : PySem.W.Frag) : R2 := fun x y H Q => ∃ d ds, Dp K H x d ∧ Dp K H y (.tuple ds) ∧ SeqAt.shaped d = true ∧ SeqAt.shaped (.list ds) = true ∧ Q (.bl (!ds.any fun z => PyData.eqv z d)) H
theorem op_notInTD {X : Cx} (hu : X.A.units + 65 < cLine) : OpR X (compareOp .NotIn) (rNotInTD X.K) := by
  intro pins s σ H x y v u Q J rx ry want
  obtain ⟨d, ds, hd, he, sd, se, q⟩ := want
  obtain ⟨as, r1⟩ := Dp.reads J d x v hd rx
  obtain ⟨bs, r2⟩ := Dp.reads J (.tuple ds) y u he ry
  exact SeqAt.notIn_tuple_reads r2 r1 (SeqAt.canLay_of_shaped se) (SeqAt.canLay_of_shaped sd) (room_in_shaped sd hu) ⟨.bl _, H, J, rfl, q⟩
theorem RT.dp {H : Hp} {v : V} {r : List Int} (h : RT H v r) : Dp K H v (tupI r) := by
  obtain ⟨t, rfl, e⟩ := h
  exact dp_row (SqT.of e)
theorem any_rows (rs : List (List Int)) (r : List Int) : ((rs.map tupI).any fun z => PyData.eqv z (tupI r)) = decide (r ∈ rs) := any_i rs r
theorem go_own {M : Addr → Prop} {H0 H : Hp} {q : Addr} (g : Go M H0 H) (f : H0 q = none) {xs : List V} (e : H q = some (.lst xs)) (ys : List V) : Go M H0 (upd H q (.lst ys)) :=
  ⟨fun b o n h => by
    have ne : b ≠ q := fun z => by
      rw [z, f] at h
      cases h
    rw [upd_ne ne]
    exact g.out b o n h, g.tups.trans (tups_lst e)⟩
/-- a list of data that grows -/
structure AccD (K : PySem.W.Frag) (H0 : Hp) (q : Addr) (rs : List PyData) (H : Hp) : Prop where
  free : H0 q = none
  same : Same H0 H
  ex : ∃ acc, H q = some (.lst acc) ∧ DtAll K H acc rs
theorem AccD.start {H0 : Hp} {q : Addr} (h : H0 q = none) : AccD K H0 q [] (upd H0 q (.lst [])) := ⟨h, same_new h _, [], upd_same, .nil⟩
theorem AccD.step {H0 H H' : Hp} {q : Addr} {rs : List PyData} (a : AccD K H0 q rs H) (s : Same H H') : AccD K H0 q rs H' := by
  obtain ⟨acc, e, d⟩ := a.ex
  exact ⟨a.free, a.same.trans s, acc, s _ _ e, d.stay s.tups⟩
theorem AccD.push {H0 H : Hp} {q : Addr} {rs : List PyData} {v : V} {r : PyData} (a : AccD K H0 q rs H) (hv : Dt K H v r) : ∃ acc, H q = some (.lst acc) ∧ acc.length = rs.length ∧ AccD K H0 q (rs ++ [r]) (upd H q (.lst (acc ++ [v]))) := by
  obtain ⟨acc, e, d0⟩ := a.ex
  have t := tups_lst (ys := acc ++ [v]) e
  exact ⟨acc, e, d0.len, a.free, same_own a.same a.free _, _, upd_same, (d0.stay t).app (.cons (hv.stay t) .nil)⟩
/-- a list of ints that grows -/
structure AccI (H0 : Hp) (q : Addr) (ns : List Int) (H : Hp) : Prop where
  free : H0 q = none
  same : Same H0 H
  ex : H q = some (.lst (ns.map V.int))
theorem AccI.start {H0 : Hp} {q : Addr} (h : H0 q = none) : AccI H0 q [] (upd H0 q (.lst [])) := ⟨h, same_new h _, upd_same⟩
theorem AccI.step {H0 H H' : Hp} {q : Addr} {ns : List Int} (a : AccI H0 q ns H) (s : Same H H') : AccI H0 q ns H' := ⟨a.free, a.same.trans s, s _ _ a.ex⟩
theorem AccI.push {H0 H : Hp} {q : Addr} {ns : List Int} (a : AccI H0 q ns H) (z : Int) : AccI H0 q (ns ++ [z]) (upd H q (.lst (ns.map V.int ++ [V.int z]))) :=
  ⟨a.free, same_own a.same a.free _, by rw [upd_same, List.map_append]; rfl⟩
theorem AccI.fin {H0 H : Hp} {q : Addr} {ns : List Int} {z : Int} {N : Hp → Prop} (a : AccI H0 q ns H) (few : ns.length ≤ 100000) (h : ∀ H', AccI H0 q (ns ++ [z]) H' → N H') : ∃ acc, H q = some (.lst acc) ∧ acc.length < sizeLine ∧ N (upd H q (.lst (acc ++ [V.int z]))) :=
  ⟨_, a.ex, lt_small (by rw [List.length_map]; exact few), h _ (a.push z)⟩
theorem AccT.fin {H0 H : Hp} {q : Addr} {rs : List (List Int)} {v : V} {r : List Int} {N : Hp → Prop} (a : AccT H0 q rs H) (hv : RT H v r) (few : rs.length ≤ 100000) (h : ∀ H', AccT H0 q (rs ++ [r]) H' → N H') : ∃ acc, H q = some (.lst acc) ∧ acc.length < sizeLine ∧ N (upd H q (.lst (acc ++ [v]))) := by
  obtain ⟨ac, e, l, a4⟩ := a.push hv
  exact ⟨ac, e, lt_small (by omega), h _ a4⟩
theorem AccD.fin {H0 H : Hp} {q : Addr} {rs : List PyData} {v : V} {r : PyData} {N : Hp → Prop} (a : AccD K H0 q rs H) (hv : Dt K H v r) (few : rs.length ≤ 100000) (h : ∀ H', AccD K H0 q (rs ++ [r]) H' → N H') : ∃ acc, H q = some (.lst acc) ∧ acc.length < sizeLine ∧ N (upd H q (.lst (acc ++ [v]))) := by
  obtain ⟨ac, e, l, a4⟩ := a.push hv
  exact ⟨ac, e, lt_small (by omega), h _ a4⟩
end
/-! ### the draws that the law makes of the script -/
section
variable {P : Program} {w : World} {K : PySem.W.Frag} {mg : Str → Option Value} {base : Heap}
/-- a new list of as many small numbers as are asked -/
def spDraws (K : PySem.W.Frag) : Sp := fun vs H Q _ => ∃ (a : Addr) (ns : List Int) (m : Nat), vs = [.ref a, .int m] ∧ SqL K H a (ns.map V.int) ∧ ns.length ≤ 63 ∧ m ≤ 2000 ∧
  ∀ (p : Addr) (H' : Hp) (ds : List Int), H p = none → Same H H' → H' p = some (.lst (ds.map V.int)) → ds.length = m → (∀ d ∈ ds, 0 ≤ d ∧ d < 2 ^ 31) → Q (.ref p) H'
theorem ok_draws {f : Addr} {fd : FuncData} (B : Blt mg) (F : Fun K "_law_draws" "_law_draws" s_law_draws f fd) : FnOk P w K mg base CX0 1 f fd ["script", "many"] (spDraws K) := by
  have sc : FnScope ["script", "many", "rests", "draws", "k", "cell", "mixed", "at"] ["script", "many"] (defScope s_law_draws) := ⟨rfl, rfl, rfl, by decide +kernel, rfl, by decide +kernel, by decide +kernel⟩
  refine F.ok sc (fun vs H Q E h => ?_) (fun cdv A outer s H vs Q E hr h => ?_)
  · obtain ⟨a, ns, m, rfl, _⟩ := h
    rfl
  obtain ⟨a, ns, m, rfl, hS, h63, hm, k⟩ := h
  refine ⟨_, (pss_cons (ps_setLc (i := 2) (own := [("cell", 5)]) (g := gName 5) (tt := tYes) rfl sc.nd rfl rfl (sw_true rfl rfl rfl (by decide +kernel)) (pi_list (pv 0)) (blkOk_by (N := ["script", "many", "rests", "draws", "k", "cell", "mixed", "at"]) (sc := defScope s_law_draws) (by decide +kernel)) (fun _ _ _ _ _ => pg_name (i := 5) sc.nd rfl (Or.inl rfl)) (fun _ _ _ _ _ => pts_nil) (fun _ _ _ _ _ => (pe_callB call_abs (by rfl) B.abs (by decide +kernel) (pa_cons (pe_callTy call_int1 (by rfl) B.int (by decide +kernel) (pa_cons (pv 5) pa_nil)) pa_nil))))
    (pss_cons (ps_set (i := 3) sc.nd rfl (Or.inl rfl) (pe_lst pa_nil))
    (pss_cons (ps_for PassesOwn.never rfl (pi_range1 (by rfl) B.range (pa_cons (pv 1) pa_nil)) (pg_name (i := 4) sc.nd rfl (Or.inl rfl))
      (pss_cons (ps_set (i := 5) sc.nd rfl (Or.inl rfl) (pv 4))
      (pss_cons (ps_if (pt_cmpR op_gt (pe_callB call_len_seq (by rfl) B.len (by decide +kernel) (pa_cons (pv 0) pa_nil)) pe_int (nomark _))
        (pss_cons (ps_set (i := 7) sc.nd rfl (Or.inl rfl) (pe_op op_mod (pv 4) (pe_callB call_len_seq (by rfl) B.len (by decide +kernel) (pa_cons (pv 0) pa_nil))))
        (pss_cons (ps_set (i := 5) sc.nd rfl (Or.inl rfl) (pe_callTy call_int1 (by rfl) B.int (by decide +kernel) (pa_cons (pe_ix ix_list (pv 0) (pv 7) (fun _ _ => rfl)) pa_nil)))
        (pss_one (ps_if (PW.pt (pw_and (pt_cmpR op_ge (pv 5) (pe_op op_pow pe_int pe_int) (nomark _)) (pw_and1 (pt_cmpR op_gt (pe_ix ix_list (pv 2) (pv 7) (fun _ _ => rfl)) pe_int (nomark _)))))
          (pss_cons (ps_expr (pe_bm PySem.F.plainAttrs_list PySem.F.slot_list_append PySem.F.type_list_append mt_append (pv 3) (pa_cons (pe_op op_mod (pe_callTy call_int1 (by rfl) B.int (by decide +kernel) (pa_cons (pe_ix ix_list (pv 2) (pv 7) (fun _ _ => rfl)) pa_nil)) pe_int) pa_nil)))
          (pss_cons (ps_asg (pe_op op_fdiv (pe_callTy call_int1 (by rfl) B.int (by decide +kernel) (pa_cons (pe_ix ix_list (pv 2) (pv 7) (fun _ _ => rfl)) pa_nil)) pe_int) (pg_sub (pv 2) (pv 7) set_list))
          (pss_one ps_continue)))
          pss_nil))))
        pss_nil)
      (pss_cons (ps_set (i := 6) sc.nd rfl (Or.inl rfl) (pe_op op_mod (pe_callTy call_int1 (by rfl) B.int (by decide +kernel) (pa_cons (pe_op op_add (pe_op op_add (pe_op op_mul (pv 5) pe_int) (pe_op op_mul (pv 4) pe_int)) pe_int) pa_nil)) pe_int))
      (pss_cons (ps_set (i := 6) sc.nd rfl (Or.inl rfl) (pe_op op_mod (pe_callTy call_int1 (by rfl) B.int (by decide +kernel) (pa_cons (pe_op op_add (pe_op op_fdiv (pe_op op_mul (pv 6) (pv 6)) pe_int) (pv 6)) pa_nil)) pe_int))
      (pss_one (ps_expr (pe_bm PySem.F.plainAttrs_list PySem.F.slot_list_append PySem.F.type_list_append mt_append (pv 3) (pa_cons (pe_op op_mod (pe_callTy call_int1 (by rfl) B.int (by decide +kernel) (pa_cons (pe_op op_add (pe_op op_fdiv (pe_op op_mul (pv 6) (pv 6)) pe_int) (pe_op op_mul (pv 4) pe_int)) pa_nil)) pe_int) pa_nil)))))))))
    (pss_one (ps_ret (pv 3)))))), ?_⟩
  -- rests
  refine ⟨_, rfl, a, rfl, ⟨_, hS⟩, fun r hr0 => ?_⟩
  refine lc_list (K := K) (a := a) (xs := ns.map V.int) (fun i H' => ∃ acc : List Int, acc.length = i ∧ H' r = some (.lst (acc.map V.int)) ∧ Same H H')
    ⟨[], rfl, upd_same, same_new hr0 _⟩ (fun i H' _ ⟨_, _, _, s⟩ => s.seq hS) ?_ ?_
  · rintro i y H' hi ⟨acc, hl, hD, s⟩
    obtain ⟨z, hz, rfl⟩ := item_of hi
    have hi63 : i < ns.length := (List.getElem?_eq_some_iff.mp hz).1
    refine ⟨rfl, ?_⟩

    refine ⟨_, rfl, .inl ⟨_, rfl, _, rfl, _, hD, small1000 (by rw [List.length_map]; omega), acc ++ [if z < 0 then -z else z], by simp [hl], ?_, same_own s hr0 _⟩⟩
    rw [upd_same, List.map_append]
    rfl
  rintro H1 ⟨rs, hrs, hr1, s1⟩
  rw [List.length_map] at hrs
  -- draws
  refine ⟨Nat.zero_le _, fun p hp1 => ?_⟩
  have hp0 : H p = none := s1.free hp1
  have npr : r ≠ p := ne_of_none hr1 hp1
  -- the loop
  refine ⟨_, rfl, (m : Int), rfl, by omega, by omega, for_range (lo := 0) (n := (m : Int).toNat) (fun i σ H' => ∃ (ds rs : List Int) (kv cv mv av : Option V), σ = [some (.ref a), some (.int m), some (.ref r), some (.ref p), kv, cv, mv, av] ∧
      H' r = some (.lst (rs.map V.int)) ∧ H' p = some (.lst (ds.map V.int)) ∧ rs.length = ns.length ∧ ds.length = i ∧ (∀ d ∈ ds, 0 ≤ d ∧ d < 2 ^ 31) ∧ Same H H')
    ⟨[], rs, none, none, none, none, rfl, by rw [upd_ne npr]; exact hr1, upd_same, hrs, rfl, by simp, same_own s1 hp0 _⟩ ?_ ?_⟩
  · rintro i σ H' hi ⟨ds, rs, kv, cv, mv, av, rfl, hr', hp', hrl, hdl, hb, s⟩
    have hi2 : ds.length < 2000 := by omega
    have grown : ∀ (d : Int), 0 ≤ d → d < 2 ^ 31 → ∀ z ∈ ds ++ [d], 0 ≤ z ∧ z < 2 ^ 31 := fun d h0 h1 z hz => by
      rcases List.mem_append.mp hz with q | q
      · exact hb z q
      · rw [List.mem_singleton.mp q]
        exact ⟨h0, h1⟩
    have put : ∀ (d : Int), (upd H' p (.lst (ds.map V.int ++ [V.int d]))) p = some (.lst ((ds ++ [d]).map V.int)) := fun d => by
      rw [upd_same, List.map_append]
      rfl
    have room : (ds.map V.int).length < sizeLine := by rw [List.length_map]; exact Nat.lt_trans hi2 (by decide)
    have m48 : -(2 ^ 64) < (48271 : Int) ∧ (48271 : Int) < 2 ^ 64 := by decide
    have m69 : -(2 ^ 64) < (69621 : Int) ∧ (69621 : Int) < 2 ^ 64 := by decide
    have m79 : -(2 ^ 64) < (7919 : Int) ∧ (7919 : Int) < 2 ^ 64 := by decide
    have b1 : ∀ x : Int, -(2 ^ 64) < x % 2147483647 ∧ x % 2147483647 < 2 ^ 64 := fun x => by omega
    have b2 : ∀ x : Int, -(2 ^ 64) < x % 2147483629 ∧ x % 2147483629 < 2 ^ 64 := fun x => by omega
    refine ⟨_, rfl, ?_⟩
    refine ⟨_, rfl, a, _, rfl, .inl (s.seq hS), _, _, rfl, rfl, _, rfl, ?_⟩
    refine ite2 (fun c => ?_) (fun c => ?_)
    · have c' := dec_t c
      rw [List.length_map] at c'
      have m0 : 0 ≤ (0 + (i : Int)) % (ns.length : Int) := Int.emod_nonneg _ (by omega)
      have m1 : (0 + (i : Int)) % (ns.length : Int) < (ns.length : Int) := Int.emod_lt_of_pos _ c'
      obtain ⟨z, _, _, hz⟩ := at_int m0 m1
      obtain ⟨y, hy0, _, hy⟩ := at_int (ns := rs) m0 (by rw [hrl]; exact m1)
      refine ⟨_, rfl, _, rfl, a, _, rfl, .inl (s.seq hS), _, _, rfl, rfl, (by rw [List.length_map]; exact c'), ?_⟩
      rw [List.length_map]
      refine ⟨_, rfl, _, rfl, a, _, _, _, rfl, rfl, s.seq hS, hz, .inl ⟨_, rfl, ?_⟩⟩
      refine ⟨_, rfl, _, _, rfl, rfl, ⟨by decide, by decide, by decide⟩, _, _, rfl, rfl, _, rfl, ?_⟩
      refine ite2 (fun _ => ?_) (fun _ => ?_)
      · refine ⟨_, rfl, _, rfl, r, _, _, _, rfl, rfl, SqL.of hr', hy, _, _, rfl, rfl, _, rfl, ?_⟩
        refine ite2 (fun _ => ?_) (fun _ => ?_)
        · refine ⟨_, rfl, .inl ⟨rfl, _, SqL.of hp'⟩, _, rfl, _, rfl, r, _, _, _, rfl, rfl, SqL.of hr', hy, .inl ⟨_, rfl, _, _, rfl, rfl, (by show (0 : Int) < 1000003; decide), p, _, _, rfl, rfl, hp', room, ?_⟩⟩
          have hr2 : (upd H' p (.lst (ds.map V.int ++ [V.int (y % 1000003)]))) r = some (.lst (rs.map V.int)) := by rw [upd_ne npr]; exact hr'
          refine ⟨_, rfl, _, rfl, r, _, _, _, rfl, rfl, SqL.of hr2, hy, .inl ⟨_, rfl, _, _, rfl, rfl, ⟨by decide, by decide⟩, _, rfl, _, rfl, r, _, _, ((0 + (i : Int)) % (ns.length : Int)).toNat, rfl, rfl, hr2, ix_of m0 (by rw [List.length_map, hrl]; exact m1), ?_⟩⟩
          refine ⟨ds ++ [y % 1000003], rs.set ((0 + (i : Int)) % (ns.length : Int)).toNat (y / 1000003), _, _, _, _, rfl, ?_, ?_, by rw [List.length_set]; exact hrl, by rw [List.length_append, List.length_singleton]; omega, grown _ (Int.emod_nonneg _ (by decide)) (Int.lt_trans (Int.emod_lt_of_pos _ (by decide)) (by decide)), same_own (same_own s hp0 _) hr0 _⟩
          · rw [upd_same, List.map_set]
          · rw [upd_ne npr.symm]
            exact put _
        · refine ⟨_, rfl, _, _, rfl, rfl, .inr m48, _, rfl, _, _, rfl, rfl, .inr m69, _, _, rfl, rfl, _, _, rfl, rfl, .inl ⟨_, rfl, _, _, rfl, rfl, (by show (0 : Int) < 2147483647; decide), ?_⟩⟩
          refine ⟨_, rfl, _, rfl, _, _, rfl, rfl, .inl (b1 _), _, _, rfl, rfl, ⟨by decide, by decide⟩, _, rfl, _, _, rfl, rfl, .inl ⟨_, rfl, _, _, rfl, rfl, (by show (0 : Int) < 2147483629; decide), ?_⟩⟩
          refine ⟨_, rfl, .inl ⟨rfl, _, SqL.of hp'⟩, _, rfl, _, rfl, _, _, rfl, rfl, .inl (b2 _), _, _, rfl, rfl, ⟨by decide, by decide⟩, _, rfl, _, _, rfl, rfl, .inr m79, _, _, rfl, rfl, .inl ⟨_, rfl, _, _, rfl, rfl, (by show (0 : Int) < 2147483629; decide), p, _, _, rfl, rfl, hp', room, ?_⟩⟩
          exact ⟨ds ++ [_], rs, _, _, _, _, rfl, by rw [upd_ne npr]; exact hr', put _, hrl, by rw [List.length_append, List.length_singleton]; omega, grown _ (Int.emod_nonneg _ (by decide)) (Int.lt_trans (Int.emod_lt_of_pos _ (by decide)) (by decide)), same_own s hp0 _⟩
      · refine ⟨_, rfl, _, _, rfl, rfl, .inr m48, _, rfl, _, _, rfl, rfl, .inr m69, _, _, rfl, rfl, _, _, rfl, rfl, .inl ⟨_, rfl, _, _, rfl, rfl, (by show (0 : Int) < 2147483647; decide), ?_⟩⟩
        refine ⟨_, rfl, _, rfl, _, _, rfl, rfl, .inl (b1 _), _, _, rfl, rfl, ⟨by decide, by decide⟩, _, rfl, _, _, rfl, rfl, .inl ⟨_, rfl, _, _, rfl, rfl, (by show (0 : Int) < 2147483629; decide), ?_⟩⟩
        refine ⟨_, rfl, .inl ⟨rfl, _, SqL.of hp'⟩, _, rfl, _, rfl, _, _, rfl, rfl, .inl (b2 _), _, _, rfl, rfl, ⟨by decide, by decide⟩, _, rfl, _, _, rfl, rfl, .inr m79, _, _, rfl, rfl, .inl ⟨_, rfl, _, _, rfl, rfl, (by show (0 : Int) < 2147483629; decide), p, _, _, rfl, rfl, hp', room, ?_⟩⟩
        exact ⟨ds ++ [_], rs, _, _, _, _, rfl, by rw [upd_ne npr]; exact hr', put _, hrl, by rw [List.length_append, List.length_singleton]; omega, grown _ (Int.emod_nonneg _ (by decide)) (Int.lt_trans (Int.emod_lt_of_pos _ (by decide)) (by decide)), same_own s hp0 _⟩
    · refine ⟨_, rfl, _, _, rfl, rfl, .inr m48, _, rfl, _, _, rfl, rfl, .inr m69, _, _, rfl, rfl, _, _, rfl, rfl, .inl ⟨_, rfl, _, _, rfl, rfl, (by show (0 : Int) < 2147483647; decide), ?_⟩⟩
      refine ⟨_, rfl, _, rfl, _, _, rfl, rfl, .inl (b1 _), _, _, rfl, rfl, ⟨by decide, by decide⟩, _, rfl, _, _, rfl, rfl, .inl ⟨_, rfl, _, _, rfl, rfl, (by show (0 : Int) < 2147483629; decide), ?_⟩⟩
      refine ⟨_, rfl, .inl ⟨rfl, _, SqL.of hp'⟩, _, rfl, _, rfl, _, _, rfl, rfl, .inl (b2 _), _, _, rfl, rfl, ⟨by decide, by decide⟩, _, rfl, _, _, rfl, rfl, .inr m79, _, _, rfl, rfl, .inl ⟨_, rfl, _, _, rfl, rfl, (by show (0 : Int) < 2147483629; decide), p, _, _, rfl, rfl, hp', room, ?_⟩⟩
      exact ⟨ds ++ [_], rs, _, _, _, _, rfl, by rw [upd_ne npr]; exact hr', put _, hrl, by rw [List.length_append, List.length_singleton]; omega, grown _ (Int.emod_nonneg _ (by decide)) (Int.lt_trans (Int.emod_lt_of_pos _ (by decide)) (by decide)), same_own s hp0 _⟩
  · rintro σ H' ⟨ds, rs, kv, cv, mv, av, rfl, hr', hp', hrl, hdl, hb, s⟩
    exact ⟨_, rfl, k p H' ds hp0 s hp' (by omega) hb⟩
/-- the next draw, below many; the place goes on by one -/
def spTake (K : PySem.W.Frag) : Sp := fun vs H Q _ => ∃ (h d : Addr) (ds : List Int) (i : Nat) (m : Int), vs = [.ref h, .int m] ∧ H h = some (.lst [.ref d, .int i]) ∧ H d = some (.lst (ds.map V.int)) ∧ 0 < m ∧ m < 1000000 ∧
  ∀ r : Int, 0 ≤ r → r < m → Q (.int r) (upd H h (.lst [.ref d, .int ((i + 1 : Nat) : Int)]))
theorem ok_take {f : Addr} {fd : FuncData} (B : Blt mg) (F : Fun K "_law_take" "_law_take" s_law_take f fd) : FnOk P w K mg base CX0 1 f fd ["hand", "many"] (spTake K) := by
  have sc : FnScope ["hand", "many", "at", "draws"] ["hand", "many"] (defScope s_law_take) := ⟨rfl, rfl, rfl, by decide +kernel, rfl, by decide +kernel, by decide +kernel⟩
  refine F.ok sc (fun vs H Q E h => ?_) (fun cdv A outer s H vs Q E hr h => ?_)
  · obtain ⟨h, d, ds, i, m, rfl, _⟩ := h
    rfl
  obtain ⟨h, d, ds, i, m, rfl, hh, hd, m0, m1, k⟩ := h
  refine ⟨_, (pss_cons (ps_set (i := 2) sc.nd rfl (Or.inl rfl) (pe_ix ix_list (pv 0) pe_int (fun _ _ => rfl)))
    (pss_cons (ps_asg (pe_op op_add (pv 2) pe_int) (pg_sub (pv 0) pe_int set_list))
    (pss_cons (ps_set (i := 3) sc.nd rfl (Or.inl rfl) (pe_ix ix_list (pv 0) pe_int (fun _ _ => rfl)))
    (pss_cons (ps_if (pt_cmpR op_ge (pv 2) (pe_callB call_len_seq (by rfl) B.len (by decide +kernel) (pa_cons (pv 3) pa_nil)) (nomark _))
      (pss_one (ps_ret pe_int))
      pss_nil)
    (pss_one (ps_ret (pe_op op_mod (pe_op op_fdiv (pe_callTy call_int1 (by rfl) B.int (by decide +kernel) (pa_cons (pe_ix ix_list (pv 3) (pv 2) (fun _ _ => rfl)) pa_nil)) pe_int) (pv 1)))))))), ?_⟩
  have ndh : d ≠ h := by
    rintro rfl
    rw [hh] at hd
    cases ds with
    | nil => cases hd
    | cons z ds => cases hd
  refine ⟨_, rfl, h, _, _, _, rfl, rfl, SqL.of hh, at_of (j := 1) rfl rfl, ?_⟩
  refine ⟨_, rfl, _, _, rfl, rfl, _, rfl, h, _, _, 1, rfl, rfl, hh, by rfl, ?_⟩
  refine ⟨_, rfl, h, _, _, _, rfl, rfl, SqL.of upd_same, at_of (j := 0) rfl rfl, ?_⟩
  have hd2 : (upd H h (.lst ([V.ref d, V.int (i : Int)].set 1 (.int ((i : Int) + 1))))) d = some (.lst (ds.map V.int)) := by rw [upd_ne ndh]; exact hd
  refine ⟨_, rfl, _, rfl, d, _, rfl, .inl (SqL.of hd2), _, _, rfl, rfl, _, rfl, ?_⟩
  have q : ∀ r : Int, 0 ≤ r → r < m → Q (.int r) (upd H h (.lst ([V.ref d, V.int (i : Int)].set 1 (.int ((i : Int) + 1))))) := k
  refine ite2 (fun _ => q 0 (by decide) m0) (fun c => ?_)
  have c' := dec_f c
  rw [List.length_map] at c'
  obtain ⟨z, _, _, hz⟩ := at_int (ns := ds) (i := (i : Int)) (by omega) (by omega)
  exact ⟨_, rfl, _, rfl, d, _, _, _, rfl, rfl, SqL.of hd2, hz, .inl ⟨_, rfl, _, _, rfl, rfl, ⟨by decide, by decide⟩, _, rfl, _, _, rfl, rfl, m0, q _ (Int.emod_nonneg _ (by omega)) (Int.emod_lt_of_pos _ m0)⟩⟩
end
section
variable {P : Program} {w : World} {K : PySem.W.Frag} {mg : Str → Option Value} {base : Heap}
def spNumber (K : PySem.W.Frag) : Sp := fun vs H Q _ => ∃ (M : Addr → Prop) (x : V) (d : PyData) (lo hi : Int), vs = [x, .int lo, .int hi] ∧ Dn M K H x d ∧ Q (.bl (isNum d lo hi)) H
theorem ok_number {f : Addr} {fd : FuncData} (B : Blt mg) (F : Fun K "is_number" "is_number" sis_number f fd) : FnOk P w K mg base CX0 1 f fd ["value", "low", "high"] (spNumber K) := by
  have sc : FnScope ["value", "low", "high"] ["value", "low", "high"] (defScope sis_number) := ⟨rfl, rfl, rfl, by decide +kernel, rfl, by decide +kernel, by decide +kernel⟩
  refine F.ok sc (fun vs H Q E h => ?_) (fun cdv A outer s H vs Q E hr h => ?_)
  · obtain ⟨_, _, _, _, _, rfl, _⟩ := h
    rfl
  obtain ⟨M, x, d, lo, hi, rfl, hd, k⟩ := h
  refine ⟨_, (pss_cons (ps_if (PW.pt (pw_or (pt_not (pt_val (pe_callB call_isi (by rfl) B.isinstance (by decide +kernel) (pa_cons (pv 0) (pa_cons (pe_bltn (v := V.ty "int") (u := Value.type "int") (by rfl) B.int (by decide +kernel) rfl) pa_nil))))) (pw_or1 (pt_val (pe_callB call_isi (by rfl) B.isinstance (by decide +kernel) (pa_cons (pv 0) (pa_cons (pe_bltn (v := V.ty "bool") (u := Value.type "bool") (by rfl) B.bool (by decide +kernel) rfl) pa_nil)))))))
      (pss_one (ps_ret pe_bl))
      pss_nil)
    (pss_one (ps_ret (pe_chain op_le op_le (pv 1) (pv 0) (pv 2))))), ?_⟩
  refine ⟨_, rfl, x, _, _, _, isInt2 d, rfl, ClsV.ty _, hd.ty, kit_ty (kit_int d), _, rfl, ?_⟩
  have no : isNum d lo hi = false → Q (.bl false) H := fun e => by rw [e] at k; exact k
  cases hi2 : isInt2 d with
  | false =>
    refine iteT ?_
    refine iteT ?_
    exact no (by cases d <;> first | rfl | cases hi2)
  | true =>
    refine iteF ?_
    refine ⟨_, rfl, x, _, _, _, isBool d, rfl, ClsV.ty _, hd.ty, kit_ty (kit_bool d), _, rfl, ?_⟩
    cases hb : isBool d with
    | true =>
      refine iteT ?_
      exact no (by cases d <;> first | rfl | cases hb)
    | false =>
      refine iteF ?_
      cases d with
      | int i =>
        cases hd
        refine ⟨_, rfl, _, rfl, _, _, rfl, rfl, _, rfl, ?_⟩
        have e : isNum (.int i) lo hi = (decide (lo ≤ i) && decide (i ≤ hi)) := rfl
        rw [e] at k
        cases h1 : decide (lo ≤ i) with
        | true =>
          rw [h1] at k
          refine iteT ?_
          exact ⟨_, rfl, _, _, rfl, rfl, k⟩
        | false =>
          rw [h1] at k
          exact iteF k
      | _ => first | (simp [isInt2] at hi2; done) | (simp [isBool] at hb; done)
end
section
variable {P : Program} {w : World} {K : PySem.W.Frag} {mg : Str → Option Value} {base : Heap}
def isIntD : PyData → Bool
  | .int _ => true
  | _ => false
def spWhole (K : PySem.W.Frag) : Sp := fun vs H Q _ => ∃ (i : Int), vs = [.int i] ∧ Q (.bl true) H
theorem ok_whole {f : Addr} {fd : FuncData} (B : Blt mg) (F : Fun K "_law_whole" "_law_whole" s_law_whole f fd) : FnOk P w K mg base CX0 1 f fd ["found"] (spWhole K) := by
  have sc : FnScope ["found"] ["found"] (defScope s_law_whole) := ⟨rfl, rfl, rfl, by decide +kernel, rfl, by decide +kernel, by decide +kernel⟩
  refine F.ok sc (fun vs H Q E h => ?_) (fun cdv A outer s H vs Q E hr h => ?_)
  · obtain ⟨_, rfl, _⟩ := h
    rfl
  obtain ⟨i, rfl, k⟩ := h
  refine ⟨_, (pss_one (ps_ret (pe_and (pe_callB call_isi (by rfl) B.isinstance (by decide +kernel) (pa_cons (pv 0) (pa_cons (pe_bltn (v := V.ty "int") (u := Value.type "int") (by rfl) B.int (by decide +kernel) rfl) pa_nil))) (pe_one (pe_not (pe_callB call_isi (by rfl) B.isinstance (by decide +kernel) (pa_cons (pv 0) (pa_cons (pe_bltn (v := V.ty "bool") (u := Value.type "bool") (by rfl) B.bool (by decide +kernel) rfl) pa_nil)))))))), ?_⟩
  have hd : Dn (fun _ => False) K H (.int i) (.int i) := .int i
  refine ⟨_, rfl, .int i, _, _, _, true, rfl, ClsV.ty _, hd.ty, kit_ty (kit_int (.int i)), ?_⟩
  refine ⟨_, rfl, ?_⟩
  refine iteT ?_
  exact ⟨_, rfl, .int i, _, _, _, false, rfl, ClsV.ty _, hd.ty, kit_ty (kit_bool (.int i)), _, rfl, k⟩
def spLike (K : PySem.W.Frag) (n : Nat) : Sp := fun vs H Q _ => ∃ (x y : V) (d : PyData), vs = [x, y] ∧ Dt K H x d ∧ Dt K H y d ∧ Pl d ∧ d.depth < n ∧ ∀ H', Same H H' → Q (.bl true) H'
set_option maxHeartbeats 1000000 in
theorem ok_like (n : Nat) {f : Addr} {fd : FuncData} (B : Blt mg) (g_law_whole : Has P w K mg base CX0 1 "_law_whole" ["found"] (spWhole K)) (g_law_like : Has P w K mg base CX0 (n + 1) "_law_like" ["found", "due"] (spLike K n))
    (F : Fun K "_law_like" "_law_like" s_law_like f fd) : FnOk P w K mg base CX0 (n + 2) f fd ["found", "due"] (spLike K (n + 1)) := by
  have sc : FnScope ["found", "due", "k"] ["found", "due"] (defScope s_law_like) := ⟨rfl, rfl, rfl, by decide +kernel, rfl, by decide +kernel, by decide +kernel⟩
  refine F.ok sc (fun vs H Q E h => ?_) (fun cdv A outer s H vs Q E hr h => ?_)
  · obtain ⟨_, _, _, rfl, _⟩ := h
    rfl
  obtain ⟨x, y, d, rfl, hx, hy, pl, dep, k⟩ := h
  refine ⟨_, (pss_cons (ps_if (pt_val (pe_callB call_isi (by rfl) B.isinstance (by decide +kernel) (pa_cons (pv 1) (pa_cons (pe_bltn (v := V.ty "tuple") (u := Value.type "tuple") (by rfl) B.tuple (by decide +kernel) rfl) pa_nil))))
      (pss_cons (ps_if (PW.pt (pw_or (pt_not (pt_val (pe_callB call_isi (by rfl) B.isinstance (by decide +kernel) (pa_cons (pv 0) (pa_cons (pe_bltn (v := V.ty "tuple") (u := Value.type "tuple") (by rfl) B.tuple (by decide +kernel) rfl) pa_nil))))) (pw_or1 (pt_cmpR op_nei (pe_callB call_len_seq (by rfl) B.len (by decide +kernel) (pa_cons (pv 0) pa_nil)) (pe_callB call_len_seq (by rfl) B.len (by decide +kernel) (pa_cons (pv 1) pa_nil)) (nomark _)))))
        (pss_one (ps_ret pe_bl))
        pss_nil)
      (pss_one (ps_ret (pe_callB (cr_all rfl) (by rfl) B.all (by decide +kernel) (pa_cons (pe_lc (own := [("k", 2)]) (g := gName 2) (tt := tYes) rfl sc.nd (pi_range1 (by rfl) B.range (pa_cons (pe_callB call_len_seq (by rfl) B.len (by decide +kernel) (pa_cons (pv 1) pa_nil)) pa_nil)) (blkOk_by (N := ["found", "due", "k"]) (sc := defScope s_law_like) (by decide +kernel)) (fun _ _ _ _ _ => pg_name (i := 2) sc.nd rfl (Or.inl rfl)) (fun _ _ _ _ _ => pts_nil) (fun _ _ _ _ _ => (pc g_law_like hr (pa_cons (pe_ix (show IxR _ (rIxT K) from ix_tup) (pv 0) (pv 2) (fun _ _ => rfl)) (pa_cons (pe_ix (show IxR _ (rIxT K) from ix_tup) (pv 1) (pv 2) (fun _ _ => rfl)) pa_nil))))) pa_nil)))))
      pss_nil)
    (pss_cons (ps_if (pt_cmpR op_isN (pv 1) pe_non (nomark _))
      (pss_one (ps_ret (pe_cmpR op_isN (pv 0) pe_non (nomark _))))
      pss_nil)
    (pss_cons (ps_if (pt_val (pe_callB call_isi (by rfl) B.isinstance (by decide +kernel) (pa_cons (pv 1) (pa_cons (pe_bltn (v := V.ty "int") (u := Value.type "int") (by rfl) B.int (by decide +kernel) rfl) pa_nil))))
      (pss_one (ps_ret (pe_and (pc g_law_whole hr (pa_cons (pv 0) pa_nil)) (pe_one (pe_cmpR (op_eqD hr.units) (pv 0) (pv 1) (nomark _))))))
      pss_nil)
    (pss_one (ps_ret (pe_and (pe_callB call_isi (by rfl) B.isinstance (by decide +kernel) (pa_cons (pv 0) (pa_cons (pe_bltn (v := V.ty "str") (u := Value.type "str") (by rfl) B.str (by decide +kernel) rfl) pa_nil))) (pe_one (pe_cmpR (op_eqD hr.units) (pv 0) (pv 1) (nomark _))))))))), ?_⟩
  have ty : ∀ {v : V}, Dt K H v d → Dn (fun _ => False) K H v d := fun q => q.dn
  cases pl with
  | non =>
    cases hx
    cases hy
    refine ⟨_, rfl, .non, _, _, _, false, rfl, ClsV.ty _, (ty .non).ty, kit_ty (kit_tup .none), _, rfl, ?_⟩
    refine iteF ?_
    refine ⟨_, rfl, rfl, _, rfl, ?_⟩
    refine iteT ?_
    exact ⟨_, rfl, rfl, k H (Same.refl H)⟩
  | int i =>
    cases hx
    cases hy
    refine ⟨_, rfl, .int i, _, _, _, false, rfl, ClsV.ty _, (ty (.int i)).ty, kit_ty (kit_tup (.int i)), _, rfl, ?_⟩
    refine iteF ?_
    refine ⟨_, rfl, rfl, _, rfl, ?_⟩
    refine iteF ?_
    refine ⟨_, rfl, .int i, _, _, _, true, rfl, ClsV.ty _, (ty (.int i)).ty, kit_ty (kit_int (.int i)), _, rfl, ?_⟩
    refine iteT ?_
    refine ⟨_, rfl, i, rfl, _, rfl, ?_⟩
    refine iteT ?_
    refine ⟨_, rfl, _, rfl, .int i, .int i, .int i, .int i, rfl, rfl, ?_⟩
    have e : PyData.eqv (.int i) (.int i) = true := decide_eq_true rfl
    rw [e]
    exact k H (Same.refl H)
  | word sw hs =>
    cases hx
    cases hy
    refine ⟨_, rfl, .str sw, _, _, _, false, rfl, ClsV.ty _, (ty (.str sw)).ty, kit_ty (kit_tup (.str sw)), _, rfl, ?_⟩
    refine iteF ?_
    refine ⟨_, rfl, rfl, _, rfl, ?_⟩
    refine iteF ?_
    refine ⟨_, rfl, .str sw, _, _, _, false, rfl, ClsV.ty _, (ty (.str sw)).ty, kit_ty (kit_int (.str sw)), _, rfl, ?_⟩
    refine iteF ?_
    refine ⟨_, rfl, .str sw, _, _, _, true, rfl, ClsV.ty _, (ty (.str sw)).ty, kit_ty (kit_str (.str sw)), _, rfl, ?_⟩
    refine iteT ?_
    refine ⟨_, rfl, _, rfl, .str sw, .str sw, .str sw, .str sw, hs, hs, ?_⟩
    have e : PyData.eqv (.str sw) (.str sw) = true := (word_eqv (.str sw) sw).trans (decide_eq_true rfl)
    rw [e]
    exact k H (Same.refl H)
  | @tup ds all few =>
    cases hx with
    | @tup a xs _ ha hxs =>
    cases hy with
    | @tup b ys _ hb hys =>
    have fx : Dn (fun _ => False) K H (.ref a) (.tuple ds) := (Dt.tup ha hxs).dn
    have fy : Dn (fun _ => False) K H (.ref b) (.tuple ds) := (Dt.tup hb hys).dn
    have lx := hxs.len
    have ly := hys.len
    refine ⟨_, rfl, .ref b, _, _, _, true, rfl, ClsV.ty _, fy.ty, kit_ty (kit_tup (.tuple ds)), _, rfl, ?_⟩
    refine iteT ?_
    refine ⟨_, rfl, .ref a, _, _, _, true, rfl, ClsV.ty _, fx.ty, kit_ty (kit_tup (.tuple ds)), _, rfl, ?_⟩
    refine iteF ?_
    refine ⟨_, rfl, a, _, rfl, .inr ha, _, rfl, b, _, rfl, .inr hb, _, _, rfl, rfl, _, rfl, ?_⟩
    rw [decide_eq_true (show ((xs.length : Nat) : Int) = ((ys.length : Nat) : Int) by rw [lx, ly])]
    refine iteF ?_
    refine ⟨_, rfl, b, _, rfl, .inr hb, ((ys.length : Nat) : Int), rfl, by omega, by omega, fun p hp => ?_⟩
    refine itr_walk (lo := 0) (n := ((ys.length : Nat) : Int).toNat) (fun i H1 => Same H H1 ∧ H1 p = some (.lst ((List.replicate i true).map V.bl))) ⟨same_new hp _, upd_same⟩ ?_ ?_
    · rintro i H1 hi ⟨s1, e1⟩
      have il : i < ds.length := by omega
      have hd : ds[i]? = some ds[i] := List.getElem?_eq_getElem il
      obtain ⟨x, hxi, dx⟩ := (hxs.stay s1.tups).at hd
      obtain ⟨y, hyi, dy⟩ := (hys.stay s1.tups).at hd
      refine ⟨rfl, ?_⟩
      have dp : ds[i].depth < n := by
        have := deep_mem (List.getElem_mem il)
        simp only [PyData.depth] at dep
        omega
      refine ⟨_, rfl, _, rfl, a, _, _, x, rfl, rfl, s1.seqT ha, at_of (j := i) (by omega) hxi, _, rfl, _, rfl, b, _, _, y, rfl, rfl, s1.seqT hb, at_of (j := i) (by omega) hyi, x, y, ds[i], rfl, dx, dy, all _ (List.getElem_mem il), dp, fun H2 s2 => ?_⟩
      refine ⟨_, s2 _ _ e1, lt_small (by rw [List.length_map, List.length_replicate]; omega), same_own (s1.trans s2) hp _, ?_⟩
      rw [upd_same, List.replicate_succ', List.map_append]
      rfl
    · rintro H1 ⟨s1, e1⟩
      refine ⟨p, _, rfl, SqL.of e1, ?_⟩
      have e : (List.replicate ((ys.length : Nat) : Int).toNat true).all (fun b => b) = true := by
        rw [List.all_eq_true]
        intro b hb
        rw [List.eq_of_mem_replicate hb]
      have q := k H1 s1
      rw [← e] at q
      exact q
theorem has_like (B : Blt mg) (d : Def K mg "_law_like" s_law_like ["found", "due"]) (g1 : Has P w K mg base CX0 1 "_law_whole" ["found"] (spWhole K)) :
    ∀ n : Nat, Has P w K mg base CX0 (n + 1) "_law_like" ["found", "due"] (spLike K n)
  | 0 => d.has fun f fd F => by
    have no : ∀ vs H Q E, ¬ spLike K 0 vs H Q E := fun vs H Q E h => by
      obtain ⟨_, _, _, _, _, _, _, h, _⟩ := h
      omega
    exact ⟨fun vs H Q E h => absurd h (no vs H Q E), fun A outer s H args us vs Q E _ _ _ _ h => absurd h (no vs H Q E)⟩
  | n + 1 => d.has fun f fd F => ok_like n B g1 (has_like B d g1 n) F
end
/-! ### finite networks -/
def rgn (n : Nat) : List Int := (List.range n).map fun (i : Nat) => (i : Int)
theorem mem_rgn {n : Nat} {z : Int} : z ∈ rgn n ↔ 0 ≤ z ∧ z < n := by
  unfold rgn
  rw [List.mem_map]
  constructor
  · rintro ⟨k, hk, rfl⟩
    have := List.mem_range.mp hk
    omega
  · rintro ⟨h0, h1⟩
    exact ⟨z.toNat, List.mem_range.mpr (by omega), by omega⟩
theorem rgn_len (n : Nat) : (rgn n).length = n := by simp [rgn]
theorem rgn_nodup (n : Nat) : (rgn n).Nodup := by
  unfold rgn
  refine List.Pairwise.map _ (fun a b (h : a ≠ b) => ?_) (List.nodup_range (n := n))
  omega
theorem rgn_take {n i : Nat} (h : i < n) : (rgn n).take (i + 1) = (rgn n).take i ++ [(i : Int)] :=
  take_more (by unfold rgn; rw [List.getElem?_map, List.getElem?_range h]; rfl)
/-- a column of links: each of the numbers below n once -/
def Col (n : Nat) (c : List Int) : Prop := c.Perm (rgn n)
theorem Col.len {n : Nat} {c : List Int} (h : Col n c) : c.length = n := by rw [List.Perm.length_eq h, rgn_len]
theorem Col.mem {n : Nat} {c : List Int} (h : Col n c) {z : Int} : z ∈ c ↔ 0 ≤ z ∧ z < n := by rw [List.Perm.mem_iff h, mem_rgn]
theorem Col.nodup {n : Nat} {c : List Int} (h : Col n c) : c.Nodup := (List.Perm.nodup_iff h).mpr (rgn_nodup n)
theorem Col.start (n : Nat) : Col n (rgn n) := List.Perm.refl _
theorem Col.at {n : Nat} {c : List Int} (h : Col n c) {i : Int} (h0 : 0 ≤ i) (h1 : i < n) : ∃ z, c[i.toNat]? = some z ∧ 0 ≤ z ∧ z < n := by
  have l : i.toNat < c.length := by rw [h.len]; omega
  exact ⟨c[i.toNat], List.getElem?_eq_getElem l, h.mem.mp (List.getElem_mem l)⟩
theorem Col.swap {n : Nat} {c : List Int} (h : Col n c) {i j : Nat} {x y : Int} (hx : c[i]? = some x) (hy : c[j]? = some y) : Col n ((c.set i y).set j x) := by
  obtain ⟨i1, ex⟩ := List.getElem?_eq_some_iff.mp hx
  obtain ⟨j1, ey⟩ := List.getElem?_eq_some_iff.mp hy
  subst ex ey
  exact (List.set_set_perm i1 j1).trans h
/-- where a number stands in a column -/
def spotN (c : List Int) (b : Int) : Int := ((c.idxOf b : Nat) : Int)
theorem Col.spot {n : Nat} {c : List Int} (h : Col n c) {b : Int} (h0 : 0 ≤ b) (h1 : b < n) : 0 ≤ spotN c b ∧ spotN c b < n ∧ c[(spotN c b).toNat]? = some b := by
  have l : c.idxOf b < c.length := List.idxOf_lt_length_iff.mpr (h.mem.mpr ⟨h0, h1⟩)
  unfold spotN
  refine ⟨by omega, by rw [h.len] at l; omega, ?_⟩
  rw [show ((c.idxOf b : Nat) : Int).toNat = c.idxOf b by omega, List.getElem?_eq_getElem l, List.getElem_idxOf l]
theorem Col.spot_of {n : Nat} {c : List Int} (h : Col n c) {i : Nat} {b : Int} (e : c[i]? = some b) : spotN c b = i := by
  obtain ⟨i1, ex⟩ := List.getElem?_eq_some_iff.mp e
  subst ex
  unfold spotN
  rw [List.Nodup.idxOf_getElem h.nodup i i1]
theorem Col.inj {n : Nat} {c : List Int} (h : Col n c) {i j : Nat} {b : Int} (e : c[i]? = some b) (f : c[j]? = some b) : i = j := by
  have := h.spot_of e
  have := h.spot_of f
  omega
/-- the column the other way -/
def back (n : Nat) (c : List Int) : List Int := (rgn n).map (spotN c)
theorem back_len (n : Nat) (c : List Int) : (back n c).length = n := by rw [back, List.length_map, rgn_len]
theorem back_at {n : Nat} {c : List Int} {b : Int} (h0 : 0 ≤ b) (h1 : b < n) : (back n c)[b.toNat]? = some (spotN c b) := by
  unfold back rgn
  rw [List.getElem?_map, List.getElem?_map, List.getElem?_range (by omega)]
  simp only [Option.map_some]
  rw [show ((b.toNat : Nat) : Int) = b by omega]
/-- of so many the places have been written -/
def Ends (n : Nat) (c es : List Int) (i : Nat) : Prop := es.length = n ∧ ∀ (k : Nat) (z : Int), k < i → c[k]? = some z → es[z.toNat]? = some (k : Int)
theorem Ends.start {n : Nat} {c es : List Int} (h : es.length = n) : Ends n c es 0 := ⟨h, fun k z hk => absurd hk (Nat.not_lt_zero k)⟩
theorem Ends.step {n : Nat} {c es : List Int} {i : Nat} {z : Int} (hc : Col n c) (h : Ends n c es i) (e : c[i]? = some z) : Ends n c (es.set z.toNat (i : Int)) (i + 1) := by
  refine ⟨by rw [List.length_set]; exact h.1, fun k y hk ey => ?_⟩
  have rz := hc.mem.mp (List.mem_of_getElem? e)
  have ry := hc.mem.mp (List.mem_of_getElem? ey)
  by_cases q : k = i
  · subst q
    rw [e] at ey
    cases ey
    rw [List.getElem?_set_self (by rw [h.1]; omega)]
  · rw [List.getElem?_set_ne]
    · exact h.2 k y (by omega) ey
    · intro w
      have : z = y := by omega
      subst this
      exact q (hc.inj ey e)
theorem Ends.full {n : Nat} {c es : List Int} (hc : Col n c) (h : Ends n c es n) : es = back n c := by
  refine List.ext_getElem? fun b => ?_
  by_cases hb : b < n
  · obtain ⟨s0, s1, s2⟩ := hc.spot (b := (b : Int)) (by omega) (by omega)
    have e1 := h.2 (spotN c b).toNat b (by omega) s2
    have e2 := back_at (n := n) (c := c) (b := (b : Int)) (by omega) (by omega)
    rw [show ((b : Int)).toNat = b by omega] at e1 e2
    rw [e1, e2]
    congr 1
  · rw [List.getElem?_eq_none (by rw [h.1]; omega), List.getElem?_eq_none (by rw [back_len]; omega)]
/-- what a walker sees: f a state's input, nx the state behind an edge, b the edge it came by -/
def gview {α : Type} (f : α → Int) (nx : Int → α → α) (D : Nat) : Nat → α → Int → PyData
  | 0, s, _ => .tuple [.int (f s)]
  | T + 1, s, b => .tuple [.int (f s), .tuple ((List.range D).map fun (j : Nat) => if 1 + (j : Int) = b then .none else gview f nx D T (nx (1 + (j : Int)) s) (1 + (j : Int)))]
def gparts {α : Type} (f : α → Int) (nx : Int → α → α) (D T : Nat) (s : α) (b : Int) : List PyData := (List.range D).map fun (j : Nat) => if 1 + (j : Int) = b then .none else gview f nx D T (nx (1 + (j : Int)) s) (1 + (j : Int))
section
variable {α : Type} {f : α → Int} {nx : Int → α → α} {D T : Nat} {s : α} {b : Int}
theorem gview_succ : gview f nx D (T + 1) s b = .tuple [.int (f s), .tuple (gparts f nx D T s b)] := rfl
theorem gparts_len : (gparts f nx D T s b).length = D := by simp [gparts]
theorem gparts_at {j : Nat} (hj : j < D) : (gparts f nx D T s b)[j]? = some (if 1 + (j : Int) = b then .none else gview f nx D T (nx (1 + (j : Int)) s) (1 + (j : Int))) := by
  unfold gparts
  rw [List.getElem?_map, List.getElem?_range hj]
  rfl
theorem gparts_take {i : Nat} (hi : i < D) : (gparts f nx D T s b).take (i + 1) = (gparts f nx D T s b).take i ++ [if 1 + (i : Int) = b then .none else gview f nx D T (nx (1 + (i : Int)) s) (1 + (i : Int))] := take_more (gparts_at hi)
end
def gbulk (D : Nat) : Nat → Nat
  | 0 => 2
  | T + 1 => D * (gbulk D T + 1) + 4
theorem gview_sized {α : Type} {f : α → Int} {nx : Int → α → α} {D : Nat} (hf : ∀ s, 0 ≤ f s ∧ f s < 1000) : ∀ (T : Nat) (s : α) (b : Int), Sized (gbulk D T) (2 * T + 1) (gview f nx D T s b)
  | 0, s, _ => by
    have h := sized_tup (m := 0) (h := 0) (ds := [.int (f s)]) fun d hd => by
      rw [List.mem_singleton.mp hd]
      exact sized_int (by have := hf s; omega)
    exact h.more (by simp [gbulk]) (by omega)
  | T + 1, s, b => by
    have hp : Sized (D * (gbulk D T + 1)) (2 * T + 2) (.tuple (gparts f nx D T s b)) := by
      have h := sized_tup (m := gbulk D T) (h := 2 * T + 1) (ds := gparts f nx D T s b) fun d hd => by
        obtain ⟨j, _, rfl⟩ := List.mem_map.mp hd
        show Sized _ _ (if 1 + (j : Int) = b then .none else gview f nx D T (nx (1 + (j : Int)) s) (1 + (j : Int)))
        split
        · exact sized_non.more (Nat.zero_le _) (Nat.zero_le _)
        · exact gview_sized hf T _ _
      rw [gparts_len] at h
      exact h
    have hi : Sized (D * (gbulk D T + 1)) (2 * T + 2) (.int (f s)) := (sized_int (i := f s) (by have := hf s; omega)).more (Nat.zero_le _) (Nat.zero_le _)
    obtain ⟨i1, i2, i3, i4⟩ := hi
    obtain ⟨p1, p2, p3, p4⟩ := hp
    refine ⟨?_, ?_, ?_, ?_⟩
    · simp only [gview_succ, PyData.leavesShort, PyData.leavesShortAll] at p1 i1 ⊢
      simp only [p1, i1, Bool.and_self]
    · simp only [gview_succ, PyData.showable, PyData.showableAll] at p2 i2 ⊢
      simp only [p2, i2, Bool.and_self]
    · simp only [gview_succ, PyData.depth, PyData.depthAll] at p3 i3 ⊢
      omega
    · have z : PyData.bulk (.int (f s)) = 0 := by simp only [PyData.bulk]
      simp only [gview_succ, PyData.bulk, PyData.bulkAll, gbulk] at p4 ⊢
      omega
theorem gbulk_le {D : Nat} (hD : D ≤ 4) : ∀ {T : Nat}, T ≤ 4 → gbulk D T ≤ 390000 := by
  have h : ∀ T m, gbulk D T ≤ m → gbulk D (T + 1) ≤ 4 * (m + 1) + 4 := fun T m h => by
    have := Nat.mul_le_mul hD (Nat.add_le_add_right h 1)
    show D * (gbulk D T + 1) + 4 ≤ _
    omega
  have h0 : gbulk D 0 ≤ 2 := Nat.le_refl _
  have h1 := h _ _ h0
  have h2 := h _ _ h1
  have h3 := h _ _ h2
  have h4 := h _ _ h3
  intro T hT
  match T, hT with
  | 0, _ => exact Nat.le_trans h0 (by decide)
  | 1, _ => exact Nat.le_trans h1 (by decide)
  | 2, _ => exact Nat.le_trans h2 (by decide)
  | 3, _ => exact Nat.le_trans h3 (by decide)
  | 4, _ => exact Nat.le_trans h4 (by decide)
/-- a state: white or not, the node's number -/
abbrev NSt := Bool × Int
def atN (xs : List Int) (i : Int) : Int := xs[i.toNat]?.getD 0
def colsOf (n : Nat) (cols : List (List Int)) (sd : Bool) : List (List Int) := if sd then cols else cols.map (back n)
def nfun (ws bs : List Int) (s : NSt) : Int := atN (if s.1 then ws else bs) s.2
def nnx (n : Nat) (cols : List (List Int)) (c : Int) (s : NSt) : NSt := (!s.1, atN (((colsOf n cols s.1)[(c - 1).toNat]?).getD []) s.2)
def sideS (sd : Bool) : Str := if sd then "white" else "black"
def netD (n : Nat) (cols : List (List Int)) (ws bs : List Int) : PyData := .tuple [.str "network", .int n, .tuple (cols.map tupI), tupI ws, tupI bs]
structure Net (n : Nat) (cols : List (List Int)) (ws bs : List Int) : Prop where
  pos : 1 ≤ n
  few : n ≤ 1000
  col : ∀ c ∈ cols, Col n c
  D4 : cols.length ≤ 4
  wl : ws.length = n
  bl : bs.length = n
  wr : ∀ z ∈ ws, 0 ≤ z ∧ z < 1000
  br : ∀ z ∈ bs, 0 ≤ z ∧ z < 1000
theorem colsOf_len {n : Nat} {cols : List (List Int)} {sd : Bool} : (colsOf n cols sd).length = cols.length := by
  cases sd <;> simp [colsOf]
theorem getD_range {xs : List Int} {n : Nat} {i : Int} {m : Int} (m0 : 0 < m) (h : ∀ z ∈ xs, 0 ≤ z ∧ z < m) : 0 ≤ atN xs i ∧ atN xs i < m := by
  unfold atN
  cases e : xs[i.toNat]? with
  | none => exact ⟨Int.le_refl _, m0⟩
  | some z => exact h z (List.mem_of_getElem? e)
theorem Net.fun_range {n : Nat} {cols : List (List Int)} {ws bs : List Int} (N : Net n cols ws bs) (s : NSt) : 0 ≤ nfun ws bs s ∧ nfun ws bs s < 1000 := by
  unfold nfun
  cases s.1
  · exact getD_range (n := n) (by decide) N.br
  · exact getD_range (n := n) (by decide) N.wr
/-- the node behind an edge -/
theorem Net.nx {n : Nat} {cols : List (List Int)} {ws bs : List Int} (N : Net n cols ws bs) {sd : Bool} {i : Int} {j : Nat} (i0 : 0 ≤ i) (i1 : i < n) (hj : j < cols.length) :
    ∃ c z, (colsOf n cols sd)[j]? = some c ∧ c[i.toNat]? = some z ∧ 0 ≤ z ∧ z < n ∧ nnx n cols (1 + (j : Int)) (sd, i) = (!sd, z) := by
  have hc : cols[j]? = some cols[j] := List.getElem?_eq_getElem hj
  have C := N.col _ (List.getElem_mem hj)
  have e : ((1 + (j : Int)) - 1).toNat = j := by omega
  cases sd with
  | true =>
    obtain ⟨z, hz, z0, z1⟩ := C.at i0 i1
    refine ⟨_, z, hc, hz, z0, z1, ?_⟩
    unfold nnx colsOf atN
    rw [e]
    simp [hc, hz]
  | false =>
    obtain ⟨z0, z1, _⟩ := C.spot i0 i1
    have hb : (cols.map (back n))[j]? = some (back n cols[j]) := by rw [List.getElem?_map, hc]; rfl
    refine ⟨_, _, hb, back_at i0 i1, z0, z1, ?_⟩
    unfold nnx colsOf atN
    rw [e]
    simp [hb, hc, back_at (c := cols[j]) i0 i1]
section
variable {P : Program} {w : World} {K : PySem.W.Frag} {mg : Str → Option Value} {base : Heap}
/-- how a network lies -/
def NetV (K : PySem.W.Frag) (H : Hp) (a : Addr) (n : Nat) (cols : List (List Int)) (ws bs : List Int) : Prop := ∃ (la wa ba : Addr) (cs : List V), SqT K H a [.str "network", .int n, .ref la, .ref wa, .ref ba] ∧ SqT K H la cs ∧ SLs (SqT K H) cs cols ∧ SqT K H wa (ws.map V.int) ∧ SqT K H ba (bs.map V.int) ∧ SLs (SqN K H) cs cols
theorem NetV.stay {H H' : Hp} {a : Addr} {n : Nat} {cols : List (List Int)} {ws bs : List Int} (t : TupsStay H H') (h : NetV K H a n cols ws bs) : NetV K H' a n cols ws bs := by
  obtain ⟨la, wa, ba, cs, h1, h2, h3, h4, h5, h6⟩ := h
  exact ⟨la, wa, ba, cs, t.seq h1, t.seq h2, h3.imp fun _ _ z => t.seq z, t.seq h4, t.seq h5, h6.imp fun _ _ z => z.stay t⟩
theorem sls_dt {H : Hp} : ∀ {vs : List V} {cols : List (List Int)}, SLs (SqT K H) vs cols → DtAll K H vs (cols.map tupI)
  | _, _, .nil => .nil
  | _, _, .cons h a => .cons (.tup h (DtAll.ints _)) (sls_dt a)
theorem NetV.dt {H : Hp} {a : Addr} {n : Nat} {cols : List (List Int)} {ws bs : List Int} (h : NetV K H a n cols ws bs) : Dt K H (.ref a) (netD n cols ws bs) := by
  obtain ⟨la, wa, ba, cs, h1, h2, h3, h4, h5, h6⟩ := h
  exact .tup h1 (.cons (.str _) (.cons (.int _) (.cons (.tup h2 (sls_dt h3)) (.cons (.tup h4 (DtAll.ints _)) (.cons (.tup h5 (DtAll.ints _)) .nil)))))
theorem sized_ints {r : List Int} {m : Nat} (h : r.length ≤ m) (b : ∀ z ∈ r, 0 ≤ z ∧ z < 1000) : Sized m 1 (tupI r) := by
  have q := sized_tup (m := 0) (h := 0) (ds := r.map PyData.int) fun d hd => by
    obtain ⟨z, hz, rfl⟩ := List.mem_map.mp hd
    have := b z hz
    exact sized_int (by omega)
  rw [List.length_map] at q
  exact q.more (by omega) (by omega)
theorem sized_net {n : Nat} {cols : List (List Int)} {ws bs : List Int} (N : Net n cols ws bs) : Sized 30000 3 (netD n cols ws bs) := by
  have a := sized_ints (r := ws) (m := 1000) (by rw [N.wl]; exact N.few) N.wr
  have b := sized_ints (r := bs) (m := 1000) (by rw [N.bl]; exact N.few) N.br
  have c : Sized 4004 2 (.tuple (cols.map tupI)) := by
    have q := sized_tup (m := 1000) (h := 1) (ds := cols.map tupI) fun d hd => by
      obtain ⟨r, hr, rfl⟩ := List.mem_map.mp hd
      have C := N.col r hr
      exact sized_ints (by rw [C.len]; exact N.few) fun z hz => by
        have := C.mem.mp hz
        have := N.few
        omega
    rw [List.length_map] at q
    refine q.more ?_ (by omega)
    have := Nat.mul_le_mul_right 1001 N.D4
    omega
  have q := sized_tup (m := 4004) (h := 2) (ds := [.str "network", .int n, .tuple (cols.map tupI), tupI ws, tupI bs]) fun d hd => by
    simp only [List.mem_cons, List.not_mem_nil, or_false] at hd
    rcases hd with rfl | rfl | rfl | rfl | rfl
    · exact ⟨by decide +kernel, by decide +kernel, by simp only [PyData.depth]; omega, by decide +kernel⟩
    · exact (sized_int (by have := N.few; omega)).more (by omega) (by omega)
    · exact c
    · exact a.more (by omega) (by omega)
    · exact b.more (by omega) (by omega)
  exact q.more (by simp) (by omega)
/-- the next draw, the heap behind it unnamed -/
def spTakeN (K : PySem.W.Frag) : Sp := fun vs H Q _ => ∃ (h d : Addr) (ds : List Int) (i : Nat) (m : Int), vs = [.ref h, .int m] ∧ Hand H h d ds i ∧ 0 < m ∧ m < 1000000 ∧
  ∀ (r : Int) (H' : Hp), 0 ≤ r → r < m → Hand H' h d ds (i + 1) → Go (· = h) H H' → Q (.int r) H'
theorem takeN {P : Program} {w : World} {K : PySem.W.Frag} {mg : Str → Option Value} {base : Heap} (g : Has P w K mg base CX0 1 "_law_take" ["hand", "many"] (spTake K)) : Has P w K mg base CX0 1 "_law_take" ["hand", "many"] (spTakeN K) :=
  g.imp fun vs H Q E ⟨h, d, ds, i, m, e, hh, m0, m1, k⟩ => ⟨h, d, ds, i, m, e, hh.1, hh.2, m0, m1, fun r r0 r1 => k r _ r0 r1 hh.next hh.go⟩
end
theorem _root_.LG.Hand.ints {H : Hp} {h d a : Addr} {ds ns : List Int} {n : Nat} (x : Hand H h d ds n) (e : H a = some (.lst (ns.map V.int))) : ¬ a = h := by
  rintro rfl
  have q := x.1.symm.trans e
  cases ns with
  | nil => cases q
  | cons z ns => cases q
section
variable {P : Program} {w : World} {K : PySem.W.Frag} {mg : Str → Option Value} {base : Heap}
/-- lists that grow while other things change -/
structure GI (M : Addr → Prop) (H0 : Hp) (q : Addr) (ns : List Int) (H : Hp) : Prop where
  free : H0 q = none
  go : Go M H0 H
  ex : H q = some (.lst (ns.map V.int))
theorem GI.start {M : Addr → Prop} {H0 : Hp} {q : Addr} (h : H0 q = none) : GI M H0 q [] (upd H0 q (.lst [])) := ⟨h, Go.new h _, upd_same⟩
theorem GI.step {M : Addr → Prop} {H0 H H' : Hp} {q : Addr} {ns : List Int} (a : GI M H0 q ns H) (nq : ¬ M q) (g : Go M H H') : GI M H0 q ns H' := ⟨a.free, a.go.trans g, g.out _ _ nq a.ex⟩
theorem GI.push {M : Addr → Prop} {H0 H : Hp} {q : Addr} {ns : List Int} (a : GI M H0 q ns H) (z : Int) (few : ns.length ≤ 100000) : H q = some (.lst (ns.map V.int)) ∧ (ns.map V.int).length < sizeLine ∧ GI M H0 q (ns ++ [z]) (upd H q (.lst (ns.map V.int ++ [V.int z]))) :=
  ⟨a.ex, lt_small (by rw [List.length_map]; exact few), a.free, go_own a.go a.free a.ex _, by rw [upd_same, List.map_append]; rfl⟩
structure GS (K : PySem.W.Frag) (M : Addr → Prop) (H0 : Hp) (q : Addr) (cs : List (List Int)) (H : Hp) : Prop where
  free : H0 q = none
  go : Go M H0 H
  ex : ∃ acc, H q = some (.lst acc) ∧ SLs (SqT K H) acc cs
theorem GS.start {M : Addr → Prop} {H0 : Hp} {q : Addr} (h : H0 q = none) : GS K M H0 q [] (upd H0 q (.lst [])) := ⟨h, Go.new h _, [], upd_same, .nil⟩
theorem GS.step {M : Addr → Prop} {H0 H H' : Hp} {q : Addr} {cs : List (List Int)} (a : GS K M H0 q cs H) (nq : ¬ M q) (g : Go M H H') : GS K M H0 q cs H' := by
  obtain ⟨acc, e, s⟩ := a.ex
  exact ⟨a.free, a.go.trans g, acc, g.out _ _ nq e, s.imp fun _ _ z => g.seqT z⟩
theorem GS.push {M : Addr → Prop} {H0 H : Hp} {q p : Addr} {cs : List (List Int)} {c : List Int} (a : GS K M H0 q cs H) (hp : SqT K H p (c.map V.int)) (few : cs.length ≤ 100000) :
    ∃ acc, H q = some (.lst acc) ∧ acc.length < sizeLine ∧ GS K M H0 q (cs ++ [c]) (upd H q (.lst (acc ++ [V.ref p]))) := by
  obtain ⟨acc, e, s⟩ := a.ex
  have t := tups_lst (ys := acc ++ [V.ref p]) e
  exact ⟨acc, e, lt_small (by rw [s.len]; exact few), a.free, go_own a.go a.free e _, _, upd_same, (s.imp fun _ _ z => t.seq z).app (.cons (t.seq hp) .nil)⟩
/-- tuples without a dict of their own -/
structure GN (K : PySem.W.Frag) (M : Addr → Prop) (H0 : Hp) (q : Addr) (cs : List (List Int)) (H : Hp) : Prop where
  free : H0 q = none
  go : Go M H0 H
  ex : ∃ acc, H q = some (.lst acc) ∧ SLs (SqN K H) acc cs
theorem GN.start {M : Addr → Prop} {H0 : Hp} {q : Addr} (h : H0 q = none) : GN K M H0 q [] (upd H0 q (.lst [])) := ⟨h, Go.new h _, [], upd_same, .nil⟩
theorem GN.step {M : Addr → Prop} {H0 H H' : Hp} {q : Addr} {cs : List (List Int)} (a : GN K M H0 q cs H) (nq : ¬ M q) (g : Go M H H') : GN K M H0 q cs H' := by
  obtain ⟨acc, e, s⟩ := a.ex
  exact ⟨a.free, a.go.trans g, acc, g.out _ _ nq e, s.imp fun _ _ z => z.stay g.tups⟩
theorem GN.push {M : Addr → Prop} {H0 H : Hp} {q p : Addr} {cs : List (List Int)} {c : List Int} (a : GN K M H0 q cs H) (hp : SqN K H p (c.map V.int)) (few : cs.length ≤ 100000) :
    ∃ acc, H q = some (.lst acc) ∧ acc.length < sizeLine ∧ GN K M H0 q (cs ++ [c]) (upd H q (.lst (acc ++ [V.ref p]))) := by
  obtain ⟨acc, e, s⟩ := a.ex
  have t := tups_lst (ys := acc ++ [V.ref p]) e
  exact ⟨acc, e, lt_small (by rw [s.len]; exact few), a.free, go_own a.go a.free e _, _, upd_same, (s.imp fun _ _ z => z.stay t).app (.cons (hp.stay t) .nil)⟩
end
/-! ### what a network is, for any data -/
def areNums (many most : Int) : PyData → Bool
  | .tuple ds => decide (((ds.length : Nat) : Int) = many) && ds.all (isNum · 0 most)
  | _ => false
def isOrd (many : Int) (d : PyData) : Bool := areNums many (many - 1) d && decide (intsD d).Nodup
def isNetWord (w : PyData) : Bool := match w with
  | .str x => decide (x = "network")
  | _ => false
def isRest (p q n : Int) (dw db : PyData) : PyData → Bool
  | .tuple cs => isNum (.int (cs.length : Nat)) 2 4 && (cs.all (isOrd n) && (areNums n (p - 1) dw && areNums n (q - 1) db))
  | _ => false
def isNetD (p q : Int) : PyData → Bool
  | .tuple [w, dn, dl, dw, db] => isNetWord w && (isNum dn 1 400 && isRest p q (numD dn) dw db dl)
  | _ => false
theorem nums_ints {many most : Int} {d : PyData} (h : areNums many most d = true) : d = tupI (intsD d) ∧ (((intsD d).length : Nat) : Int) = many ∧ ∀ z ∈ intsD d, 0 ≤ z ∧ z ≤ most := by
  cases d with
  | tuple ds =>
    have h' : (decide (((ds.length : Nat) : Int) = many) && ds.all (isNum · 0 most)) = true := h
    rw [Bool.and_eq_true, decide_eq_true_eq, List.all_eq_true] at h'
    obtain ⟨e, a⟩ := h'
    have go : ∀ ds : List PyData, (∀ d ∈ ds, isNum d 0 most = true) → ds = (ds.map numD).map PyData.int := by
      intro ds
      induction ds with
      | nil => intro _; rfl
      | cons d ds ih =>
        intro a
        rw [List.map_cons, List.map_cons, ← ih fun x hx => a x (List.mem_cons_of_mem _ hx), ← (num_of (a d List.mem_cons_self)).1]
    refine ⟨?_, ?_, ?_⟩
    · show PyData.tuple ds = .tuple ((ds.map numD).map PyData.int)
      rw [← go ds a]
    · show (((ds.map numD).length : Nat) : Int) = many
      rw [List.length_map, e]
    · intro z hz
      obtain ⟨d, hd, rfl⟩ := List.mem_map.mp (show z ∈ ds.map numD from hz)
      exact (num_of (a d hd)).2
  | _ => cases h
section
variable {P : Program} {w : World} {K : PySem.W.Frag} {mg : Str → Option Value} {base : Heap}
/-- the first part may be held against a text -/
def WordOk (d : PyData) : Prop := ∀ w r, d = .tuple (w :: r) → r.length = 4 → SeqAt.shaped w = true
theorem shaped_dp {M : Addr → Prop} {H : Hp} {v : V} {d : PyData} (h : Dn M K H v d) (s : SeqAt.shaped d = true) : Dp K H v d := Dn.dp d (PyData.hasDict_of_canLay d (SeqAt.canLay_of_shaped s)) h
theorem is_netword (d : PyData) : PyData.eqv d (.str "network") = isNetWord d := by
  rw [word_eqv]
  rfl
def spNums (K : PySem.W.Frag) : Sp := fun vs H Q _ => ∃ (M : Addr → Prop) (x : V) (d : PyData) (many most : Int), vs = [x, .int many, .int most] ∧ Dn M K H x d ∧ many ≤ 1000 ∧ ∀ H', Same H H' → Q (.bl (areNums many most d)) H'
theorem ok_nums {f : Addr} {fd : FuncData} (B : Blt mg) (gis_number : Has P w K mg base CX0 1 "is_number" ["value", "low", "high"] (spNumber K)) (F : Fun K "_are_numbers" "_are_numbers" s_are_numbers f fd) : FnOk P w K mg base CX0 2 f fd ["value", "many", "most"] (spNums K) := by
  have sc : FnScope ["value", "many", "most", "number"] ["value", "many", "most"] (defScope s_are_numbers) := ⟨rfl, rfl, rfl, by decide +kernel, rfl, by decide +kernel, by decide +kernel⟩
  refine F.ok sc (fun vs H Q E h => ?_) (fun cdv A outer s H vs Q E hr h => ?_)
  · obtain ⟨_, _, _, _, _, rfl, _⟩ := h
    rfl
  obtain ⟨M, x, d, many, most, rfl, hd, hm, k⟩ := h
  refine ⟨_, (pss_cons (ps_if (PW.pt (pw_or (pt_not (pt_val (pe_callB call_isi (by rfl) B.isinstance (by decide +kernel) (pa_cons (pv 0) (pa_cons (pe_bltn (v := V.ty "tuple") (u := Value.type "tuple") (by rfl) B.tuple (by decide +kernel) rfl) pa_nil))))) (pw_or1 (pt_cmpR op_nei (pe_callB call_len_seq (by rfl) B.len (by decide +kernel) (pa_cons (pv 0) pa_nil)) (pv 1) (nomark _)))))
      (pss_one (ps_ret pe_bl))
      pss_nil)
    (pss_one (ps_ret (pe_callB (cr_all rfl) (by rfl) B.all (by decide +kernel) (pa_cons (pe_lc (own := [("number", 3)]) (g := gName 3) (tt := tYes) rfl sc.nd (pi_tup (pv 0)) (blkOk_by (N := ["value", "many", "most", "number"]) (sc := defScope s_are_numbers) (by decide +kernel)) (fun _ _ _ _ _ => pg_name (i := 3) sc.nd rfl (Or.inl rfl)) (fun _ _ _ _ _ => pts_nil) (fun _ _ _ _ _ => (pc gis_number hr (pa_cons (pv 3) (pa_cons pe_int (pa_cons (pv 2) pa_nil)))))) pa_nil))))), ?_⟩
  try dsimp only [cxOf]
  have no : areNums many most d = false → Q (.bl false) H := fun e => by have := k H (Same.refl _); rw [e] at this; exact this
  w_fin
  refine st_isi hd (kit_tup d) ?_
  w_fin
  cases ht : isTup d with
  | false =>
    refine iteT ?_
    w_fin
    exact no (by cases d <;> first | rfl | cases ht)
  | true =>
    refine iteF ?_
    obtain ⟨ds, rfl⟩ := isTup_of ht
    obtain ⟨a, xs, rfl, ha, hx⟩ := dn_tup hd
    have e : areNums many most (.tuple ds) = (decide (((ds.length : Nat) : Int) = many) && ds.all (isNum · 0 most)) := rfl
    w_fin
    rw [hx.len]
    refine st_ntwo (fun c => ?_) (fun c => ?_)
    · w_fin
      exact no (by rw [e, decide_eq_false c]; rfl)
    · w_fin
      intro p hp
      refine itt_walk (xs := xs) (fun i H' => Same H H' ∧ H' p = some (.lst (((ds.take i).map fun d => isNum d 0 most).map V.bl))) ⟨same_new hp _, upd_same⟩ (fun i H' _ z => z.1.seqT ha) ?_ ?_
      · rintro i y H1 hi ⟨s1, e1⟩
        obtain ⟨dy, hdy, hyd⟩ := hx.of hi
        w_fin
        refine ⟨M, y, dy, 0, most, rfl, hyd.stay s1.go, ?_⟩
        refine ⟨_, e1, lt_small (by rw [List.length_map, List.length_map, List.length_take]; omega), same_own s1 hp _, ?_⟩
        rw [upd_same, take_more hdy, List.map_append, List.map_append]
        rfl
      · rintro H1 ⟨s1, e1⟩
        rw [hx.len, List.take_length] at e1
        w_fin
        refine ⟨p, _, rfl, SqL.of e1, ?_⟩
        have q := k H1 s1
        rw [e, decide_eq_true c, Bool.true_and] at q
        rw [List.all_map]
        exact q
def spOrd (K : PySem.W.Frag) : Sp := fun vs H Q _ => ∃ (M : Addr → Prop) (x : V) (d : PyData) (many : Int), vs = [x, .int many] ∧ Dn M K H x d ∧ many ≤ 1000 ∧ ∀ H', Same H H' → Q (.bl (isOrd many d)) H'
theorem ok_ord {f : Addr} {fd : FuncData} (B : Blt mg) (g_are_numbers : Has P w K mg base CX0 2 "_are_numbers" ["value", "many", "most"] (spNums K)) (F : Fun K "is_order" "is_order" sis_order f fd) : FnOk P w K mg base CX0 3 f fd ["value", "many"] (spOrd K) := by
  have sc : FnScope ["value", "many"] ["value", "many"] (defScope sis_order) := ⟨rfl, rfl, rfl, by decide +kernel, rfl, by decide +kernel, by decide +kernel⟩
  refine F.ok sc (fun vs H Q E h => ?_) (fun cdv A outer s H vs Q E hr h => ?_)
  · obtain ⟨_, _, _, _, rfl, _⟩ := h
    rfl
  obtain ⟨M, x, d, many, rfl, hd, hm, k⟩ := h
  refine ⟨_, (pss_one (ps_ret (pe_and (pc g_are_numbers hr (pa_cons (pv 0) (pa_cons (pv 1) (pa_cons (pe_op op_sub (pv 1) pe_int) pa_nil)))) (pe_one (pe_cmpR op_eqi (pe_lenSetT (by rfl) B.len (by rfl) B.set (pv 0)) (pv 1) (nomark _)))))), ?_⟩
  try dsimp only [cxOf]
  w_fin
  refine ⟨M, x, d, many, many - 1, rfl, hd, hm, fun H1 s1 => ?_⟩
  w_fin
  cases c : areNums many (many - 1) d with
  | false =>
    refine iteF ?_
    have := k H1 s1
    unfold isOrd at this
    rw [c] at this
    exact this
  | true =>
    refine iteT ?_
    obtain ⟨e, l, r⟩ := nums_ints c
    rw [e] at hd
    obtain ⟨a, xs, rfl, ha, hx⟩ := dn_tup hd
    obtain rfl := ints_vs hx
    w_fin
    refine ⟨a, intsD d, rfl, s1.seqT ha, by omega, fun n hn => ?_⟩
    w_fin
    have := k H1 s1
    unfold isOrd at this
    rw [c, Bool.true_and] at this
    have q : decide ((n : Int) = many) = decide (intsD d).Nodup := decide_eq_decide.mpr ⟨fun z => hn.mp (by omega), fun z => by have := hn.mpr z; omega⟩
    rw [q]
    exact this
def spIsNet (K : PySem.W.Frag) : Sp := fun vs H Q _ => ∃ (M : Addr → Prop) (x : V) (d : PyData) (p q : Int), vs = [x, .int p, .int q] ∧ Dn M K H x d ∧ WordOk d ∧ ∀ H', Same H H' → Q (.bl (isNetD p q d)) H'
set_option maxHeartbeats 1000000 in
theorem ok_isnet {f : Addr} {fd : FuncData} (B : Blt mg) (T : Cst mg) (gis_number : Has P w K mg base CX0 1 "is_number" ["value", "low", "high"] (spNumber K)) (gis_order : Has P w K mg base CX0 3 "is_order" ["value", "many"] (spOrd K)) (g_are_numbers : Has P w K mg base CX0 2 "_are_numbers" ["value", "many", "most"] (spNums K))
    (F : Fun K "is_network" "is_network" sis_network f fd) : FnOk P w K mg base CX0 4 f fd ["value", "p", "q"] (spIsNet K) := by
  have sc : FnScope ["value", "p", "q", "_", "n", "links", "white", "black", "column"] ["value", "p", "q"] (defScope sis_network) := ⟨rfl, rfl, rfl, by decide +kernel, rfl, by decide +kernel, by decide +kernel⟩
  refine F.ok sc (fun vs H Q E h => ?_) (fun cdv A outer s H vs Q E hr h => ?_)
  · obtain ⟨_, _, _, _, _, rfl, _⟩ := h
    rfl
  obtain ⟨M, x, d, p, q, rfl, hd, hw, k⟩ := h
  obtain ⟨tk1, hMOST_NODES⟩ := T.MOST_NODES
  obtain ⟨tk2, hLEAST_COLOURS⟩ := T.LEAST_COLOURS
  obtain ⟨tk3, hMOST_COLOURS⟩ := T.MOST_COLOURS
  refine ⟨_, (pss_cons (ps_if (PW.pt (pw_or (pt_not (pt_val (pe_callB call_isi (by rfl) B.isinstance (by decide +kernel) (pa_cons (pv 0) (pa_cons (pe_bltn (v := V.ty "tuple") (u := Value.type "tuple") (by rfl) B.tuple (by decide +kernel) rfl) pa_nil))))) (pw_or (pt_cmpR op_nei (pe_callB call_len_seq (by rfl) B.len (by decide +kernel) (pa_cons (pv 0) pa_nil)) pe_int (nomark _)) (pw_or1 (pt_cmpR (op_neD hr.units) (pe_ix ix_tup (pv 0) pe_int (fun _ _ => rfl)) pe_str (nomark _))))))
      (pss_one (ps_ret pe_bl))
      pss_nil)
    (pss_cons (ps_asg (pv 0) (pg_tup rfl (pgs_cons (pg_name (i := 3) sc.nd rfl (Or.inl rfl)) (pgs_cons (pg_name (i := 4) sc.nd rfl (Or.inr rfl)) (pgs_cons (pg_name (i := 5) sc.nd rfl (Or.inl rfl)) (pgs_cons (pg_name (i := 6) sc.nd rfl (Or.inl rfl)) (pgs_cons (pg_name (i := 7) sc.nd rfl (Or.inl rfl)) pgs_nil)))))))
    (pss_cons (ps_if (PW.pt (pw_or (pt_not (pt_val (pc gis_number hr (pa_cons (pv 4) (pa_cons pe_int (pa_cons (pe_glob (v := V.int _) rfl hMOST_NODES ⟨_, rfl⟩) pa_nil)))))) (pw_or1 (pt_not (pt_val (pe_callB call_isi (by rfl) B.isinstance (by decide +kernel) (pa_cons (pv 5) (pa_cons (pe_bltn (v := V.ty "tuple") (u := Value.type "tuple") (by rfl) B.tuple (by decide +kernel) rfl) pa_nil))))))))
      (pss_one (ps_ret pe_bl))
      pss_nil)
    (pss_cons (ps_if (pt_not (pt_val (pc gis_number hr (pa_cons (pe_callB call_len_seq (by rfl) B.len (by decide +kernel) (pa_cons (pv 5) pa_nil)) (pa_cons (pe_glob (v := V.int _) rfl hLEAST_COLOURS ⟨_, rfl⟩) (pa_cons (pe_glob (v := V.int _) rfl hMOST_COLOURS ⟨_, rfl⟩) pa_nil))))))
      (pss_one (ps_ret pe_bl))
      pss_nil)
    (pss_cons (ps_if (pt_not (pt_val (pe_callB (cr_all rfl) (by rfl) B.all (by decide +kernel) (pa_cons (pe_lc (own := [("column", 8)]) (g := gName 8) (tt := tYes) rfl sc.nd (pi_tup (pv 5)) (blkOk_by (N := ["value", "p", "q", "_", "n", "links", "white", "black", "column"]) (sc := defScope sis_network) (by decide +kernel)) (fun _ _ _ _ _ => pg_name (i := 8) sc.nd rfl (Or.inl rfl)) (fun _ _ _ _ _ => pts_nil) (fun _ _ _ _ _ => (pc gis_order hr (pa_cons (pv 8) (pa_cons (pv 4) pa_nil))))) pa_nil))))
      (pss_one (ps_ret pe_bl))
      pss_nil)
    (pss_one (ps_ret (pe_and (pc g_are_numbers hr (pa_cons (pv 6) (pa_cons (pv 4) (pa_cons (pe_op op_sub (pv 1) pe_int) pa_nil)))) (pe_one (pc g_are_numbers hr (pa_cons (pv 7) (pa_cons (pv 4) (pa_cons (pe_op op_sub (pv 2) pe_int) pa_nil))))))))))))), ?_⟩
  try dsimp only [cxOf]
  have no : isNetD p q d = false → Q (.bl false) H := fun e => by have := k H (Same.refl _); rw [e] at this; exact this
  w_fin
  refine st_isi hd (kit_tup d) ?_
  w_fin
  cases ht : isTup d with
  | false =>
    refine iteT ?_
    w_fin
    exact no (by cases d <;> first | rfl | cases ht)
  | true =>
    refine iteF ?_
    obtain ⟨ds, rfl⟩ := isTup_of ht
    obtain ⟨a, xs, rfl, ha, hx⟩ := dn_tup hd
    w_fin
    rw [hx.len]
    refine st_ntwo (fun c => ?_) (fun c => ?_)
    · w_fin
      refine no ?_
      match ds, c with
      | [], _ => rfl
      | [_], _ => rfl
      | [_, _], _ => rfl
      | [_, _, _], _ => rfl
      | [_, _, _, _], _ => rfl
      | [_, _, _, _, _], c => exact absurd rfl c
      | _ :: _ :: _ :: _ :: _ :: _ :: _, _ => rfl
    obtain ⟨d0, d1, d2, d3, d4, rfl⟩ : ∃ d0 d1 d2 d3 d4, ds = [d0, d1, d2, d3, d4] := by
      match ds, c with
      | [], c => exact absurd c (by decide)
      | [_], c => exact absurd c (by simp)
      | [_, _], c => exact absurd c (by simp)
      | [_, _, _], c => exact absurd c (by simp)
      | [_, _, _, _], c => exact absurd c (by simp)
      | [d0, d1, d2, d3, d4], _ => exact ⟨_, _, _, _, _, rfl⟩
      | _ :: _ :: _ :: _ :: _ :: _ :: r, c => exact absurd c (by simp only [List.length_cons]; omega)
    cases hx with | @cons v0 _ _ _ h0 hx =>
    cases hx with | @cons v1 _ _ _ h1 hx =>
    cases hx with | @cons v2 _ _ _ h2 hx =>
    cases hx with | @cons v3 _ _ _ h3 hx =>
    cases hx with | @cons v4 _ _ _ h4 hx =>
    cases hx
    have sh := hw d0 _ rfl rfl
    have eN : isNetD p q (.tuple [d0, d1, d2, d3, d4]) = (isNetWord d0 && (isNum d1 1 400 && isRest p q (numD d1) d3 d4 d2)) := rfl
    rw [eN] at k no
    w_fin
    refine ⟨_, _, shaped_dp h0 sh, .str "network", sh, by decide +kernel, ?_⟩
    rw [is_netword]
    w_fin
    cases hwd : isNetWord d0 with
    | false =>
      refine iteT ?_
      w_fin
      exact no (by rw [hwd]; rfl)
    | true =>
    refine iteF ?_
    rw [hwd, Bool.true_and] at k no
    w_fin
    refine st_gtup ha rfl ?_
    w_fin
    refine ⟨M, v1, d1, 1, 400, rfl, h1, ?_⟩
    w_fin
    cases hn : isNum d1 1 400 with
    | false =>
      refine iteT ?_
      w_fin
      exact no (by rw [hn]; rfl)
    | true =>
    refine iteF ?_
    rw [hn, Bool.true_and] at k no
    obtain ⟨e1, n1, n4⟩ := num_of hn
    rw [e1] at h1
    obtain rfl := dn_int h1
    w_fin
    refine st_isi h2 (kit_tup d2) ?_
    w_fin
    cases ht2 : isTup d2 with
    | false =>
      refine iteT ?_
      w_fin
      refine no ?_
      cases d2 <;> first | rfl | cases ht2
    | true =>
    refine iteF ?_
    obtain ⟨cs, rfl⟩ := isTup_of ht2
    obtain ⟨la, cvs, rfl, hla, hcs⟩ := dn_tup h2
    w_fin
    refine ⟨M, _, .int ((cvs.length : Nat) : Int), 2, 4, rfl, .int _, ?_⟩
    rw [hcs.len]
    w_fin
    have eR : isRest p q (numD d1) d3 d4 (.tuple cs) = (isNum (.int (cs.length : Nat)) 2 4 && (cs.all (isOrd (numD d1)) && (areNums (numD d1) (p - 1) d3 && areNums (numD d1) (q - 1) d4))) := rfl
    rw [eR] at k no
    cases hc : isNum (.int (cs.length : Nat)) 2 4 with
    | false =>
      refine iteT ?_
      w_fin
      exact no (by rw [hc]; rfl)
    | true =>
    refine iteF ?_
    rw [hc, Bool.true_and] at k no
    have few : cs.length ≤ 4 := by
      have := (num_of hc).2.2
      have : ((cs.length : Nat) : Int) ≤ 4 := this
      omega
    w_fin
    intro l hl
    refine itt_walk (xs := cvs) (fun i H' => Same H H' ∧ H' l = some (.lst (((cs.take i).map (isOrd (numD d1))).map V.bl))) ⟨same_new hl _, upd_same⟩ (fun i H' _ z => z.1.seqT hla) ?_ ?_
    · rintro i y H1 hi ⟨s1, e1⟩
      obtain ⟨dy, hdy, hyd⟩ := hcs.of hi
      w_fin
      refine ⟨M, y, dy, numD d1, rfl, hyd.stay s1.go, by omega, fun H2 s2 => ?_⟩
      refine ⟨_, s2 _ _ e1, lt_small (by rw [List.length_map, List.length_map, List.length_take]; omega), same_own (s1.trans s2) hl _, ?_⟩
      rw [upd_same, take_more hdy, List.map_append, List.map_append]
      rfl
    rintro H1 ⟨s1, e1⟩
    rw [hcs.len, List.take_length] at e1
    w_fin
    refine ⟨l, _, rfl, SqL.of e1, ?_⟩
    rw [List.all_map]
    w_fin
    have ecs : (cs.all ((fun b => b) ∘ isOrd (numD d1))) = cs.all (isOrd (numD d1)) := rfl
    rw [show (cs.all (id ∘ isOrd (numD d1))) = cs.all (isOrd (numD d1)) from rfl]
    cases ha2 : cs.all (isOrd (numD d1)) with
    | false =>
      refine iteT ?_
      w_fin
      have := k H1 s1
      rw [ha2] at this
      exact this
    | true =>
    refine iteF ?_
    rw [ha2, Bool.true_and] at k
    w_fin
    refine ⟨M, v3, d3, _, p - 1, rfl, h3.stay s1.go, by omega, fun H2 s2 => ?_⟩
    w_fin
    cases h3' : areNums (numD d1) (p - 1) d3 with
    | false =>
      refine iteF ?_
      have := k H2 (s1.trans s2)
      rw [h3'] at this
      exact this
    | true =>
    refine iteT ?_
    rw [h3', Bool.true_and] at k
    w_fin
    exact ⟨M, v4, d4, _, q - 1, rfl, (h4.stay s1.go).stay s2.go, by omega, fun H3 s3 => k H3 ((s1.trans s2).trans s3)⟩
end
section
variable {P : Program} {w : World} {K : PySem.W.Frag} {mg : Str → Option Value} {base : Heap}
def spPlain (K : PySem.W.Frag) (C : Addr) : Sp := fun vs H Q E => ∃ (M : Addr → Prop) (x : V) (d : PyData), vs = [x] ∧ Dn M K H x d ∧ WordOk d ∧ ∀ H', Same H H' → (isNetD 4 4 d = true → Q .non H') ∧ (isNetD 4 4 d = false → E (.ref C) none H')
theorem ok_plain {C : Addr} {f : Addr} {fd : FuncData} (T : Cst mg) (eBadNetwork : Err K mg "BadNetwork" C) (gis_network : Has P w K mg base CX0 4 "is_network" ["value", "p", "q"] (spIsNet K)) (F : Fun K "check_plain" "check_plain" scheck_plain f fd) : FnOk P w K mg base (L2.CX P w) 5 f fd ["network"] (spPlain K C) := by
  have sc : FnScope ["network"] ["network"] (defScope scheck_plain) := ⟨rfl, rfl, rfl, by decide +kernel, rfl, by decide +kernel, by decide +kernel⟩
  refine F.okX sc (fun vs H Q E h => ?_) (fun cdv A outer s H vs Q E hr h => ?_)
  · obtain ⟨_, _, _, rfl, _⟩ := h
    rfl
  obtain ⟨M, x, d, rfl, hd, hw, k⟩ := h
  obtain ⟨tk1, hMOST_INPUTS⟩ := T.MOST_INPUTS
  refine ⟨_, (pss_one (ps_if (pt_not (pt_val (pc gis_network hr (pa_cons (pv 0) (pa_cons (pe_glob (v := V.int _) rfl hMOST_INPUTS ⟨_, rfl⟩) (pa_cons (pe_glob (v := V.int _) rfl hMOST_INPUTS ⟨_, rfl⟩) pa_nil))))))
      (pss_one (ps_raise rfl (takes_of rfl rfl rfl rfl) (pmk_own PySem.F.excBase_ValueError eBadNetwork.xi eBadNetwork.g eBadNetwork.k (raises_own eBadNetwork.b eBadNetwork.t) rfl)))
      pss_nil)), ?_⟩
  try dsimp only [cxOf]
  w_fin
  refine ⟨M, x, d, 4, 4, rfl, hd, hw, fun H1 s1 => ?_⟩
  w_fin
  cases c : isNetD 4 4 d with
  | true =>
    refine iteF ?_
    exact (k H1 s1).1 c
  | false =>
    refine iteT ?_
    w_fin
    exact (k H1 s1).2 c
end
section
variable {P : Program} {w : World} {K : PySem.W.Frag} {mg : Str → Option Value} {base : Heap}
def spOther (K : PySem.W.Frag) : Sp := fun vs H Q _ => ∃ sd : Bool, vs = [.str (sideS sd)] ∧ Q (.str (sideS (!sd))) H
theorem ok_other {f : Addr} {fd : FuncData} (F : Fun K "other_side" "other_side" sother_side f fd) : FnOk P w K mg base CX0 1 f fd ["side"] (spOther K) := by
  have sc : FnScope ["side"] ["side"] (defScope sother_side) := ⟨rfl, rfl, rfl, by decide +kernel, rfl, by decide +kernel, by decide +kernel⟩
  refine F.ok sc (fun vs H Q E h => ?_) (fun cdv A outer s H vs Q E hr h => ?_)
  · obtain ⟨_, rfl, _⟩ := h
    rfl
  obtain ⟨sd, rfl, k⟩ := h
  refine ⟨_, (pss_one (ps_ret (pe_ifExp (pt_cmpR op_eqs (pv 0) pe_str (nomark _)) pe_str pe_str))), ?_⟩
  try dsimp only [cxOf]
  w_fin
  cases sd with
  | true =>
    refine st_y rfl ?_
    w_fin
    exact k
  | false =>
    refine st_n (by decide) ?_
    w_fin
    exact k
/-- for each side the columns that lead from it -/
def EndsV (K : PySem.W.Frag) (H : Hp) (e : Addr) (n : Nat) (cols : List (List Int)) : Prop := ∃ (wl bl : Addr) (cs cs' : List V), H e = some (.dK [(Sum.inr "white", .ref wl), (Sum.inr "black", .ref bl)]) ∧ SqT K H wl cs ∧ SLs (SqT K H) cs cols ∧ SqT K H bl cs' ∧ SLs (SqT K H) cs' (cols.map (back n))
theorem EndsV.stay {H H' : Hp} {e : Addr} {n : Nat} {cols : List (List Int)} (s : Same H H') (h : EndsV K H e n cols) : EndsV K H' e n cols := by
  obtain ⟨wl, bl, cs, cs', h1, h2, h3, h4, h5⟩ := h
  exact ⟨wl, bl, cs, cs', s _ _ h1, s.seqT h2, h3.imp fun _ _ z => s.seqT z, s.seqT h4, h5.imp fun _ _ z => s.seqT z⟩
theorem EndsV.get {H : Hp} {e : Addr} {n : Nat} {cols : List (List Int)} (h : EndsV K H e n cols) (sd : Bool) : ∃ (l : Addr) (cs : List V), (∀ H', Same H H' → DGet H' e (.str (sideS sd)) (some (.ref l))) ∧ SqT K H l cs ∧ SLs (SqT K H) cs (colsOf n cols sd) := by
  obtain ⟨wl, bl, cs, cs', h1, h2, h3, h4, h5⟩ := h
  cases sd with
  | true => exact ⟨wl, cs, fun H' s => .inl ⟨_, Sum.inr "white", .inl (s _ _ h1), rfl, rfl⟩, h2, h3⟩
  | false => exact ⟨bl, cs', fun H' s => .inl ⟨_, Sum.inr "black", .inl (s _ _ h1), rfl, rfl⟩, h4, h5⟩
def spEnds (K : PySem.W.Frag) : Sp := fun vs H Q _ => ∃ (a : Addr) (n : Nat) (cols : List (List Int)) (ws bs : List Int), vs = [.ref a] ∧ NetV K H a n cols ws bs ∧ Net n cols ws bs ∧
  ∀ (e : Addr) (H' : Hp), Same H H' → EndsV K H' e n cols → Q (.ref e) H'
set_option maxHeartbeats 1000000 in
theorem ok_ends {f : Addr} {fd : FuncData} (B : Blt mg) (F : Fun K "ends_of" "ends_of" sends_of f fd) : FnOk P w K mg base CX0 1 f fd ["network"] (spEnds K) := by
  have sc : FnScope ["network", "back", "column", "_", "n", "links", "ends", "white", "black"] ["network"] (defScope sends_of) := ⟨rfl, rfl, rfl, by decide +kernel, rfl, by decide +kernel, by decide +kernel⟩
  refine F.ok sc (fun vs H Q E h => ?_) (fun cdv A outer s H vs Q E hr h => ?_)
  · obtain ⟨_, _, _, _, _, rfl, _⟩ := h
    rfl
  obtain ⟨a, n, cols, ws, bs, rfl, ⟨la, wa, ba, cs, h1, h2, h3, h4, h5, h6⟩, N, k⟩ := h
  refine ⟨_, (pss_cons (ps_asg (pv 0) (pg_tup rfl (pgs_cons (pg_name (i := 3) sc.nd rfl (Or.inl rfl)) (pgs_cons (pg_name (i := 4) sc.nd rfl (Or.inl rfl)) (pgs_cons (pg_name (i := 5) sc.nd rfl (Or.inl rfl)) (pgs_cons (pg_name (i := 3) sc.nd rfl (Or.inl rfl)) (pgs_cons (pg_name (i := 3) sc.nd rfl (Or.inl rfl)) pgs_nil)))))))
    (pss_cons (ps_set (i := 1) sc.nd rfl (Or.inl rfl) (pe_lstN pa_nil))
    (pss_cons (ps_for PassesOwn.never rfl (pi_tup (pv 5)) (pg_name (i := 2) sc.nd rfl (Or.inl rfl))
      (pss_cons (ps_set (i := 6) sc.nd rfl (Or.inl rfl) (pe_op (show OpR _ _ rMulLN from op_mulLN) (pe_lstN (pa_cons pe_int pa_nil)) (pv 4)))
      (pss_cons (ps_for PassesOwn.never rfl (pi_enT (by rfl) B.enumerate (pa_cons (pv 2) pa_nil)) (pg_tup rfl (pgs_cons (pg_name (i := 7) sc.nd rfl (Or.inl rfl)) (pgs_cons (pg_name (i := 8) sc.nd rfl (Or.inl rfl)) pgs_nil)))
        (pss_one (ps_asg (pv 7) (pg_sub (pv 6) (pv 8) set_list))))
      (pss_one (ps_expr (pe_bm PySem.F.plainAttrs_list PySem.F.slot_list_append PySem.F.type_list_append mt_append (pv 1) (pa_cons (pe_callTy (show CallR _ _ (rTupN K) from call_tupN) (by rfl) B.tuple (by decide +kernel) (pa_cons (pv 6) pa_nil)) pa_nil)))))))
    (pss_one (ps_ret (pe_disp (pps_cons pe_str (pv 5) (pps_cons pe_str (pe_callTy (show CallR _ _ (rTupN K) from call_tupN) (by rfl) B.tuple (by decide +kernel) (pa_cons (pv 1) pa_nil)) pps_nil)) (by rfl) (by rfl) (fun z => by cases z) (by decide))))))), ?_⟩
  try dsimp only [cxOf]
  w_fin
  refine st_gtup h1 rfl ?_
  w_fin
  intro bp H1 hbp s1 ebp
  have h2' := s1.seqT h2
  w_fin
  refine fr_tup (xs := cs) (fun i σ H' => ∃ (cv ev wv bv : Option V) (xv : V), σ = [some (.ref a), some (.ref bp), cv, some xv, some (.int n), some (.ref la), ev, wv, bv] ∧ GS K (fun _ => False) H bp ((cols.map (back n)).take i) H' ∧ Same H H')
    ⟨none, none, none, none, _, rfl, ⟨hbp, s1.go, [], ebp, .nil⟩, s1⟩ (fun i σ H' _ z => by
      obtain ⟨_, _, _, _, _, _, _, s⟩ := z
      exact s.seqT h2) ?_ ?_
  · rintro i y σ H2 hi ⟨cv, ev, wv, bv, xv, rfl, acc, s2⟩
    obtain ⟨ca, c, rfl, hc, hca⟩ := h3.of hi
    have C := N.col c (List.mem_of_getElem? hc)
    have il : i < cols.length := (List.getElem?_eq_some_iff.mp hc).1
    w_fin
    intro ol H3 hol s3 eol
    w_fin
    refine ⟨ol, _, _, rfl, rfl, eol, by omega, by have := N.few; omega, by have := N.few; simp; omega, fun el H4 hel s4 eel => ?_⟩
    rw [List.flatten_replicate_singleton, show ((n : Nat) : Int).toNat = n by omega] at eel
    have hca4 := s4.seqT (s3.seqT (s2.seqT hca))
    have acc4 := acc.step (fun z => z) (s3.trans s4).go
    have s24 := s2.trans (s3.trans s4)
    have hel0 : H el = none := (s2.trans s3).free hel
    w_fin
    refine fr_enum (xs := c.map V.int) (fun j σ H' => ∃ (wv bv : Option V) (es : List Int), σ = [some (.ref a), some (.ref bp), some (.ref ca), some xv, some (.int n), some (.ref la), some (.ref el), wv, bv] ∧ H' el = some (.lst (es.map V.int)) ∧ Ends n c es j ∧ GS K (fun _ => False) H bp ((cols.map (back n)).take i) H' ∧ Same H H' ∧ SqT K H' ca (c.map V.int))
      ⟨_, _, List.replicate n 0, rfl, by rw [eel, List.map_replicate], Ends.start List.length_replicate, acc4, s24, hca4⟩ (fun j σ H' _ z => by
        obtain ⟨_, _, _, _, _, _, _, _, q⟩ := z
        exact q) ?_ ?_
    · rintro j x σ H5 T H6 hj ⟨wv, bv, es, rfl, ees, En, acc5, s5, hca5⟩ hT s6 eT
      obtain ⟨z, hz, rfl⟩ := item_of hj
      have rz := C.mem.mp (List.mem_of_getElem? hz)
      refine st_gtup (SqT.of eT) rfl ?_
      have ees6 := s6 _ _ ees
      w_fin
      refine st_setL ees6 (ix_of rz.1 (by rw [List.length_map, En.1]; exact rz.2)) ?_
      obtain ⟨ac1, e1, _⟩ := acc.ex
      have nbe : bp ≠ el := ne_of_none (s3 _ _ e1) hel
      have t := tups_lst (ys := (es.map V.int).set z.toNat (.int ((0 + j : Nat) : Int))) ees6
      refine ⟨_, _, es.set z.toNat (j : Int), rfl, ?_, En.step C hz, ?_, same_own (s5.trans s6) hel0 _, t.seq (s6.seqT hca5)⟩
      · rw [upd_same, List.map_set, Nat.zero_add]
      · obtain ⟨ac, e1, l1⟩ := (acc5.step (fun z => z) s6.go).ex
        exact ⟨hbp, go_own (acc5.go.trans s6.go) hel0 ees6 _, ac, by rw [upd_ne nbe]; exact e1, l1.imp fun _ _ q => t.seq q⟩
    · rintro σ H5 ⟨wv, bv, es, rfl, ees, En, acc5, s5, hca5⟩
      rw [List.length_map, C.len] at En
      rw [En.full C] at ees
      w_fin
      obtain ⟨ac0, e0, _⟩ := acc5.ex
      refine st_tyL e0 ?_
      w_fin
      intro t H6 _ s6 ht
      obtain ⟨ac, e, f, a6⟩ := (acc5.step (fun z => z) s6.go).push (p := t) (c := back n c) (SqT.of ht) (by rw [List.length_take, List.length_map]; have := N.D4; omega)
      w_fin
      refine st_app e f ?_
      refine ⟨_, _, _, _, _, rfl, ?_, same_own (s5.trans s6) hbp _⟩
      rw [take_more (x := back n c) (by rw [List.getElem?_map, hc]; rfl)]
      exact a6
  · rintro σ H2 ⟨cv, ev, wv, bv, xv, rfl, acc, s2⟩
    rw [List.take_of_length_le (by rw [List.length_map, h3.len]; exact Nat.le_refl _)] at acc
    obtain ⟨ac, e, hac⟩ := acc.ex
    w_fin
    intro q hq
    have sq := same_new hq (.dK [])
    have eq1 : (upd H2 q (.dK [])) q = some (.dK []) := upd_same
    have hq0 := s2.free hq
    generalize upd H2 q (.dK []) = H3 at sq eq1 ⊢
    have e3 := sq _ _ e
    w_fin
    intro t H4 _ s4 ht
    have sAll := s2.trans (sq.trans s4)
    w_fin
    refine ⟨s4 _ _ eq1, [(Sum.inr "white", .ref la), (Sum.inr "black", .ref t)], rfl, by simp, ?_⟩
    have s5 := same_own sAll hq0 (.dK (mergeK [] [(Sum.inr "white", .ref la), (Sum.inr "black", .ref t)]))
    have ntq : t ≠ q := fun z => by
      rw [z, s4 _ _ eq1] at ht
      cases ht
    have hac4 : SLs (SqT K (upd H4 q (.dK (mergeK [] [(Sum.inr "white", .ref la), (Sum.inr "black", .ref t)])))) ac (cols.map (back n)) := hac.imp fun b xs z => by
      have z4 := s4.seqT (sq.seqT z)
      rcases z4 with (z4 | ⟨o, z4⟩) | z4
      · exact .inl (.inl (by rw [upd_ne (fun w => by rw [w, s4 _ _ eq1] at z4; cases z4)]; exact z4))
      · exact .inl (.inr ⟨o, by rw [upd_ne (fun w => by rw [w, s4 _ _ eq1] at z4; cases z4)]; exact z4⟩)
      · exact .inr z4
    exact k q _ s5 ⟨la, t, cs, ac, by rw [upd_same]; rfl, s5.seqT h2, h3.imp fun _ _ z => s5.seqT z, SqT.of (by rw [upd_ne ntq]; exact ht), hac4⟩
end
section
variable {P : Program} {w : World} {K : PySem.W.Frag} {mg : Str → Option Value} {base : Heap}
theorem erase_map {α β : Type} (f : α → β) : ∀ (l : List α) (k : Nat), (l.map f).eraseIdx k = (l.eraseIdx k).map f
  | [], _ => rfl
  | _ :: _, 0 => rfl
  | x :: l, k + 1 => by
    show f x :: (l.map f).eraseIdx k = f x :: (l.eraseIdx k).map f
    rw [erase_map f l k]
theorem erase_perm {α : Type} : ∀ (l : List α) (k : Nat) (y : α), l[k]? = some y → (y :: l.eraseIdx k).Perm l
  | [], _, _, h => by simp at h
  | x :: l, 0, y, h => by
    simp at h
    subst h
    exact List.Perm.refl _
  | x :: l, k + 1, y, h => (List.Perm.swap x y _).trans (List.Perm.cons x (erase_perm l k y (by simpa using h)))
theorem seq_ix {n : Nat} {i : Int} (h0 : 0 ≤ i) (h1 : i < n) : seqIndex? i n = some i.toNat := by
  unfold seqIndex?
  have e : (if i < 0 then i + (n : Int) else i) = i := if_neg (by omega)
  simp only [e]
  rw [if_pos (by simp [h0, h1])]
theorem go_none {M : Addr → Prop} {H H' : Hp} {q : Addr} (g : Go M H H') (n : ¬ M q) (e : H' q = none) : H q = none := by
  cases z : H q with
  | none => rfl
  | some o =>
    have := g.out _ _ n z
    rw [e] at this
    cases this
def spPopOrder (K : PySem.W.Frag) : Sp := fun vs H Q _ => ∃ (h d : Addr) (ds : List Int) (i n : Nat), vs = [.ref h, .int n] ∧ Hand H h d ds i ∧ 1 ≤ n ∧ n ≤ 1000 ∧
  ∀ (p : Addr) (H' : Hp) (i' : Nat) (c : List Int), Hand H' h d ds i' → Go (· = h) H H' → SqN K H' p (c.map V.int) → Col n c → Q (.ref p) H'
set_option maxHeartbeats 1000000 in
theorem ok_poporder {f : Addr} {fd : FuncData} (B : Blt mg) (g_law_take : Has P w K mg base CX0 1 "_law_take" ["hand", "many"] (spTakeN K)) (F : Fun K "_law_order" "_law_order" s_law_order f fd) : FnOk P w K mg base CX0 2 f fd ["hand", "many"] (spPopOrder K) := by
  have sc : FnScope ["hand", "many", "left", "order", "k"] ["hand", "many"] (defScope s_law_order) := ⟨rfl, rfl, rfl, by decide +kernel, rfl, by decide +kernel, by decide +kernel⟩
  refine F.ok sc (fun vs H Q E h => ?_) (fun cdv A outer s H vs Q E hr h => ?_)
  · obtain ⟨_, _, _, _, _, rfl, _⟩ := h
    rfl
  obtain ⟨h, d, ds, i0, n, rfl, hh, n1, n2, k⟩ := h
  refine ⟨_, (pss_cons (ps_setLc (i := 2) (own := [("k", 4)]) (g := gName 4) (tt := tYes) rfl sc.nd rfl rfl (sw_true rfl rfl rfl (by decide +kernel)) (pi_range1 (by rfl) B.range (pa_cons (pv 1) pa_nil)) (blkOk_by (N := ["hand", "many", "left", "order", "k"]) (sc := defScope s_law_order) (by decide +kernel)) (fun _ _ _ _ _ => pg_name (i := 4) sc.nd rfl (Or.inl rfl)) (fun _ _ _ _ _ => pts_nil) (fun _ _ _ _ _ => (pv 4)))
    (pss_cons (ps_set (i := 3) sc.nd rfl (Or.inl rfl) (pe_lstN pa_nil))
    (pss_cons (ps_for PassesOwn.never rfl (pi_range1 (by rfl) B.range (pa_cons (pv 1) pa_nil)) (pg_name (i := 4) sc.nd rfl (Or.inl rfl))
      (pss_one (ps_expr (pe_bm PySem.F.plainAttrs_list PySem.F.slot_list_append PySem.F.type_list_append mt_append (pv 3) (pa_cons (pe_bm PySem.F.plainAttrs_list PySem.F.slot_list_pop PySem.F.type_list_pop mt_popAt (pv 2) (pa_cons (pc g_law_take hr (pa_cons (pv 0) (pa_cons (pe_callB call_len_seq (by rfl) B.len (by decide +kernel) (pa_cons (pv 2) pa_nil)) pa_nil))) pa_nil)) pa_nil)))))
    (pss_one (ps_ret (pe_callTy (show CallR _ _ (rTupF K) from call_tupF) (by rfl) B.tuple (by decide +kernel) (pa_cons (pv 3) pa_nil))))))), ?_⟩
  try dsimp only [cxOf]
  w_fin
  intro ol hol
  obtain ⟨nh, nd⟩ := hand_out hh hol
  refine itr_walk (lo := 0) (n := ((n : Nat) : Int).toNat) (fun i H' => GI (· = h) H ol ((rgn n).take i) H' ∧ Hand H' h d ds i0) ⟨GI.start hol, hh.new hol _⟩ ?_ ?_
  · rintro i H1 hi ⟨acc, hh1⟩
    w_fin
    obtain ⟨e, f, a⟩ := acc.push (0 + (i : Int)) (by rw [List.length_take, rgn_len]; omega)
    refine ⟨_, e, f, ?_, hh1.off nh nd _⟩
    rw [Int.zero_add] at a ⊢
    rw [rgn_take (by omega)]
    exact a
  · rintro H1 ⟨acc, hh1⟩
    rw [List.take_of_length_le (by rw [rgn_len]; omega)] at acc
    have gol := acc.go
    have eol := acc.ex
    w_fin
    intro ql H2 hql s2 eql
    w_fin
    obtain ⟨nq, ndq⟩ := hand_out hh1 hql
    have nlq : ql ≠ ol := fun e => by subst e; rw [eol] at hql; cases hql
    refine fr_range (fun i σ H' => ∃ (m : Nat) (c l : List Int) (kv : Option V), σ = [some (.ref h), some (.int n), some (.ref ol), some (.ref ql), kv] ∧ Hand H' h d ds m ∧ Go (· = h) H H' ∧ H' ol = some (.lst (l.map V.int)) ∧ H' ql = some (.lst (c.map V.int)) ∧ c.length = i ∧ Col n (c ++ l)) ?_ ?_ ?_
    · exact ⟨i0, [], rgn n, none, rfl, hh1.same s2, gol.trans s2.go, s2 _ _ eol, eql, rfl, Col.start n⟩
    · rintro i σ H3 hi ⟨m, c, l, kv, rfl, hh3, g3, eol3, eql3, len, C⟩
      have hl : c.length + l.length = n := by have := C.len; rwa [List.length_append] at this
      w_fin
      refine ⟨h, d, ds, m, ((l.map V.int).length : Nat), rfl, hh3, by rw [List.length_map]; omega, by rw [List.length_map]; omega, fun a H4 a0 a1 hh4 g4 => ?_⟩
      rw [List.length_map] at a1
      have eol4 := g4.out _ _ nh eol3
      have eql4 := g4.out _ _ nq eql3
      obtain ⟨y, hy⟩ : ∃ y, l[a.toNat]? = some y := ⟨_, List.getElem?_eq_getElem (by omega)⟩
      w_fin
      refine ⟨ol, _, a, a.toNat, .int y, rfl, rfl, eol4, by omega, by omega, seq_ix a0 (by rw [List.length_map]; omega), by rw [List.getElem?_map, hy]; rfl, ?_⟩
      have eql5 : (upd H4 ol (.lst ((l.map V.int).eraseIdx a.toNat))) ql = some (.lst (c.map V.int)) := by rw [upd_ne nlq]; exact eql4
      have eol5 : (upd H4 ol (.lst ((l.map V.int).eraseIdx a.toNat))) ol = some (.lst ((l.eraseIdx a.toNat).map V.int)) := by rw [upd_same, erase_map]
      have hh5 := hh4.off nh nd (.lst ((l.map V.int).eraseIdx a.toNat))
      have g5 := go_own (g3.trans g4) hol eol4 ((l.map V.int).eraseIdx a.toNat)
      generalize upd H4 ol (.lst ((l.map V.int).eraseIdx a.toNat)) = H5 at eql5 eol5 hh5 g5 ⊢
      w_fin
      refine st_app eql5 (lt_small (by rw [List.length_map]; omega)) ?_
      have hql : H ql = none := go_none gol nq hql
      refine ⟨m + 1, c ++ [y], l.eraseIdx a.toNat, _, rfl, hh5.off nq ndq _, go_own g5 hql eql5 _, by rw [upd_ne (Ne.symm nlq)]; exact eol5, by rw [upd_same, List.map_append]; rfl, by rw [List.length_append, len]; rfl, ?_⟩
      have p := erase_perm l a.toNat y hy
      rw [List.append_assoc]
      exact (List.Perm.append_left c p).trans C
    · rintro σ H3 ⟨m, c, l, kv, rfl, hh3, g3, eol3, eql3, len, C⟩
      have hl : c.length + l.length = n := by have := C.len; rwa [List.length_append] at this
      obtain rfl : l = [] := List.length_eq_zero_iff.mp (by omega)
      rw [List.append_nil] at C
      w_fin
      intro t H4 _ s4 ht hnd
      exact k t H4 m c (hh3.same s4) (g3.trans s4.go) ⟨ht, hnd⟩ C
end
theorem nfun_at {n : Nat} {cols : List (List Int)} {ws bs : List Int} (N : Net n cols ws bs) {sd : Bool} {i : Int} (i0 : 0 ≤ i) (i1 : i < n) : atI ((if sd then ws else bs).map V.int) i = some (.int (nfun ws bs (sd, i))) := by
  have l : (if sd then ws else bs).length = n := by cases sd; exact N.bl; exact N.wl
  obtain ⟨z, hz, _, hat⟩ := at_int (ns := if sd then ws else bs) i0 (by rw [l]; exact i1)
  rw [hat]
  unfold nfun atN
  simp only
  rw [hz]
  rfl
section
variable {P : Program} {w : World} {K : PySem.W.Frag} {mg : Str → Option Value} {base : Heap}
def spNet5 (K : PySem.W.Frag) : Sp := fun vs H Q _ => ∃ (h d : Addr) (ds : List Int) (i D n : Nat) (pw pb : Int), vs = [.ref h, .int D, .int n, .int pw, .int pb] ∧ Hand H h d ds i ∧ D ≤ 4 ∧ 1 ≤ n ∧ n ≤ 1000 ∧ 1 ≤ pw ∧ pw ≤ 1000 ∧ 1 ≤ pb ∧ pb ≤ 1000 ∧
  ∀ (p : Addr) (H' : Hp) (i' : Nat) (cols : List (List Int)) (ws bs : List Int), Hand H' h d ds i' → Go (· = h) H H' → NetV K H' p n cols ws bs → Net n cols ws bs → cols.length = D → (∀ z ∈ ws, 0 ≤ z ∧ z < pw) → (∀ z ∈ bs, 0 ≤ z ∧ z < pb) → Q (.ref p) H'
set_option maxHeartbeats 1000000 in
theorem ok_net5 {f : Addr} {fd : FuncData} (B : Blt mg) (g_law_take : Has P w K mg base CX0 1 "_law_take" ["hand", "many"] (spTakeN K)) (g_law_order : Has P w K mg base CX0 2 "_law_order" ["hand", "many"] (spPopOrder K))
    (F : Fun K "_law_network" "_law_network" s_law_network f fd) : FnOk P w K mg base CX0 3 f fd ["hand", "colours", "many", "p", "q"] (spNet5 K) := by
  have sc : FnScope ["hand", "colours", "many", "p", "q", "links", "white", "c", "i"] ["hand", "colours", "many", "p", "q"] (defScope s_law_network) := ⟨rfl, rfl, rfl, by decide +kernel, rfl, by decide +kernel, by decide +kernel⟩
  refine F.ok sc (fun vs H Q E h => ?_) (fun cdv A outer s H vs Q E hr h => ?_)
  · obtain ⟨_, _, _, _, _, _, _, _, rfl, _⟩ := h
    rfl
  obtain ⟨h, d, ds, i0, D, n, pw, pb, rfl, hh, D4, n1, n2, pw1, pw2, pb1, pb2, k⟩ := h
  refine ⟨_, (pss_cons (ps_set (i := 5) sc.nd rfl (Or.inl rfl) (pe_callTy (show CallR _ _ (rTupN K) from call_tupN) (by rfl) B.tuple (by decide +kernel) (pa_cons (pe_lc (own := [("c", 7)]) (g := gName 7) (tt := tYes) rfl sc.nd (pi_range1 (by rfl) B.range (pa_cons (pv 1) pa_nil)) (blkOk_by (N := ["hand", "colours", "many", "p", "q", "links", "white", "c", "i"]) (sc := defScope s_law_network) (by decide +kernel)) (fun _ _ _ _ _ => pg_name (i := 7) sc.nd rfl (Or.inl rfl)) (fun _ _ _ _ _ => pts_nil) (fun _ _ _ _ _ => (pc g_law_order hr (pa_cons (pv 0) (pa_cons (pv 2) pa_nil))))) pa_nil)))
    (pss_cons (ps_set (i := 6) sc.nd rfl (Or.inl rfl) (pe_callTy (show CallR _ _ (rTupN K) from call_tupN) (by rfl) B.tuple (by decide +kernel) (pa_cons (pe_lc (own := [("i", 8)]) (g := gName 8) (tt := tYes) rfl sc.nd (pi_range1 (by rfl) B.range (pa_cons (pv 2) pa_nil)) (blkOk_by (N := ["hand", "colours", "many", "p", "q", "links", "white", "c", "i"]) (sc := defScope s_law_network) (by decide +kernel)) (fun _ _ _ _ _ => pg_name (i := 8) sc.nd rfl (Or.inl rfl)) (fun _ _ _ _ _ => pts_nil) (fun _ _ _ _ _ => (pc g_law_take hr (pa_cons (pv 0) (pa_cons (pv 3) pa_nil))))) pa_nil)))
    (pss_one (ps_ret (pe_tupN (pa_cons pe_str (pa_cons (pv 2) (pa_cons (pv 5) (pa_cons (pv 6) (pa_cons (pe_callTy (show CallR _ _ (rTupN K) from call_tupN) (by rfl) B.tuple (by decide +kernel) (pa_cons (pe_lc (own := [("i", 8)]) (g := gName 8) (tt := tYes) rfl sc.nd (pi_range1 (by rfl) B.range (pa_cons (pv 2) pa_nil)) (blkOk_by (N := ["hand", "colours", "many", "p", "q", "links", "white", "c", "i"]) (sc := defScope s_law_network) (by decide +kernel)) (fun _ _ _ _ _ => pg_name (i := 8) sc.nd rfl (Or.inl rfl)) (fun _ _ _ _ _ => pts_nil) (fun _ _ _ _ _ => (pc g_law_take hr (pa_cons (pv 0) (pa_cons (pv 4) pa_nil))))) pa_nil)) pa_nil)))))))))), ?_⟩
  try dsimp only [cxOf]
  w_fin
  intro lp hlp
  obtain ⟨nh, nd⟩ := hand_out hh hlp
  refine itr_walk (lo := 0) (n := ((D : Nat) : Int).toNat) (fun i H' => ∃ (m : Nat) (cs : List (List Int)), GN K (· = h) H lp cs H' ∧ Hand H' h d ds m ∧ cs.length = i ∧ ∀ c ∈ cs, Col n c) ⟨i0, [], GN.start hlp, hh.new hlp _, rfl, fun c hc => by cases hc⟩ ?_ ?_
  · rintro i H1 hi ⟨m, cs, acc, hh1, len, C⟩
    w_fin
    refine ⟨h, d, ds, m, n, rfl, hh1, n1, n2, fun p H2 m2 c hh2 g2 hp hc => ?_⟩
    obtain ⟨ac, e, f, a⟩ := (acc.step nh g2).push hp (by omega)
    refine ⟨_, e, f, m2, _, a, hh2.off nh nd _, by rw [List.length_append, len]; rfl, fun c' hc' => ?_⟩
    rcases List.mem_append.mp hc' with q | q
    · exact C c' q
    · rw [List.mem_singleton.mp q]
      exact hc
  rintro H1 ⟨m, cs, acc, hh1, len, C⟩
  have len : cs.length = D := by omega
  obtain ⟨lxs, elp, hls⟩ := acc.ex
  w_fin
  intro lt H2 _ s2 hlt
  have g2 : Go (· = h) H H2 := acc.go.trans s2.go
  have hh2 := hh1.same s2
  have hls2 := hls.imp fun _ _ z => z.stay s2.tups
  w_fin
  intro wp hwp
  obtain ⟨nwh, nwd⟩ := hand_out hh2 hwp
  refine itr_walk (lo := 0) (n := ((n : Nat) : Int).toNat) (fun i H' => ∃ (m : Nat) (ws : List Int), GI (· = h) H2 wp ws H' ∧ Hand H' h d ds m ∧ ws.length = i ∧ ∀ z ∈ ws, 0 ≤ z ∧ z < pw) ⟨_, [], GI.start hwp, hh2.new hwp _, rfl, fun c hc => by cases hc⟩ ?_ ?_
  · rintro i H4 hi ⟨m4, ws, aw, hh4, lw, rw4⟩
    w_fin
    refine ⟨h, d, ds, m4, pw, rfl, hh4, by omega, by omega, fun x H5 x0 x1 hh5 g5 => ?_⟩
    obtain ⟨e, f, a⟩ := (aw.step nwh g5).push x (by omega)
    refine ⟨_, e, f, _, _, a, hh5.off nwh nwd _, by rw [List.length_append, lw]; rfl, fun z hz => ?_⟩
    rcases List.mem_append.mp hz with q | q
    · exact rw4 z q
    · rw [List.mem_singleton.mp q]
      exact ⟨x0, x1⟩
  rintro H4 ⟨m4, ws, aw, hh4, lw, rw4⟩
  have ew := aw.ex
  w_fin
  intro wt H5 _ s5 hwt
  have hh5 := hh4.same s5
  w_fin
  intro bp hbp
  obtain ⟨nbh, nbd⟩ := hand_out hh5 hbp
  refine itr_walk (lo := 0) (n := ((n : Nat) : Int).toNat) (fun i H' => ∃ (m : Nat) (ws : List Int), GI (· = h) H5 bp ws H' ∧ Hand H' h d ds m ∧ ws.length = i ∧ ∀ z ∈ ws, 0 ≤ z ∧ z < pb) ⟨_, [], GI.start hbp, hh5.new hbp _, rfl, fun c hc => by cases hc⟩ ?_ ?_
  · rintro i H6 hi ⟨m6, bs, ab, hh6, lb, rb6⟩
    w_fin
    refine ⟨h, d, ds, m6, pb, rfl, hh6, by omega, by omega, fun x H7 x0 x1 hh7 g7 => ?_⟩
    obtain ⟨e, f, a⟩ := (ab.step nbh g7).push x (by omega)
    refine ⟨_, e, f, _, _, a, hh7.off nbh nbd _, by rw [List.length_append, lb]; rfl, fun z hz => ?_⟩
    rcases List.mem_append.mp hz with q | q
    · exact rb6 z q
    · rw [List.mem_singleton.mp q]
      exact ⟨x0, x1⟩
  rintro H6 ⟨m6, bs, ab, hh6, lb, rb6⟩
  have eb := ab.ex
  w_fin
  intro bt H7 _ s7 hbt
  w_fin
  intro p H8 _ s8 hp
  have gR8 : Go (· = h) H2 H8 := (aw.go.trans s5.go).trans (ab.go.trans (s7.trans s8).go)
  have g58 : Go (· = h) H5 H8 := ab.go.trans (s7.trans s8).go
  refine k p H8 m6 cs ws bs (hh6.same (s7.trans s8)) (g2.trans gR8) ⟨lt, wt, bt, lxs, SqT.of hp, gR8.seqT (SqT.of hlt), hls2.imp fun _ _ z => gR8.seqT z.1, g58.seqT (SqT.of hwt), s8.seqT (SqT.of hbt), hls2.imp fun _ _ z => z.stay gR8.tups⟩
    ⟨n1, n2, C, by omega, by omega, by omega, fun z hz => by have := rw4 z hz; omega, fun z hz => by have := rb6 z hz; omega⟩ len rw4 rb6
/-- a side by its number -/
def sdI (sd : Bool) : Int := if sd then 0 else 1
theorem indexT_flat {K : PySem.W.Frag} {H : Hp} {l : Addr} {c : List Int} {n : Nat} {b : Int} {Q : VK} (C : Col n c) (b0 : 0 ≤ b) (b1 : b < n) (hl : SqT K H l (c.map V.int)) (q : Q (.int (spotN c b)) H) : rIndexT K (.ref l) [.int b] H Q := by
  obtain ⟨s0, s1, s2⟩ := C.spot b0 b1
  refine ⟨l, _, .int b, (spotN c b).toNat, .int b, rfl, rfl, hl, rfl, flat_ints _, by rw [List.getElem?_map, s2]; rfl, ?_, fun m z' hm hz => ?_, ?_⟩
  · show decide (b = b) = true
    exact decide_eq_true rfl
  · obtain ⟨z, hz', rfl⟩ := item_of hz
    show decide (z = b) = false
    refine decide_eq_false fun e => ?_
    subst e
    have := C.inj hz' s2
    omega
  · rw [show (((spotN c b).toNat : Nat) : Int) = spotN c b by omega]
    exact q
def spBehindI (K : PySem.W.Frag) : Sp := fun vs H Q _ => ∃ (a : Addr) (sd : Bool) (i : Int) (j n : Nat) (cols : List (List Int)) (ws bs : List Int), vs = [.ref a, .int (sdI sd), .int i, .int (1 + (j : Int))] ∧ NetV K H a n cols ws bs ∧ Net n cols ws bs ∧ 0 ≤ i ∧ i < n ∧ j < cols.length ∧ Q (.int (nnx n cols (1 + (j : Int)) (sd, i)).2) H
theorem ok_behindI {f : Addr} {fd : FuncData} (B : Blt mg) (F : Fun K "_law_behind" "_law_behind" s_law_behind f fd) : FnOk P w K mg base CX0 1 f fd ["network", "side", "node", "colour"] (spBehindI K) := by
  have sc : FnScope ["network", "side", "node", "colour"] ["network", "side", "node", "colour"] (defScope s_law_behind) := ⟨rfl, rfl, rfl, by decide +kernel, rfl, by decide +kernel, by decide +kernel⟩
  refine F.ok sc (fun vs H Q E h => ?_) (fun cdv A outer s H vs Q E hr h => ?_)
  · obtain ⟨_, _, _, _, _, _, _, _, rfl, _⟩ := h
    rfl
  obtain ⟨a, sd, i, j, n, cols, ws, bs, rfl, hV, N, i0, i1, hj, k⟩ := h
  obtain ⟨la, wa, ba, cs, h1, h2, h3, h4, h5, h6⟩ := id hV
  refine ⟨_, (pss_cons (ps_if (pt_cmpR op_eqi (pv 1) pe_int (nomark _))
      (pss_one (ps_ret (pe_ix ix_tup (pe_ix ix_tup (pe_ix ix_tup (pv 0) pe_int (fun _ _ => rfl)) (pe_op op_sub (pv 3) pe_int) (fun _ _ => rfl)) (pv 2) (fun _ _ => rfl))))
      pss_nil)
    (pss_one (ps_ret (pe_bmN PySem.F.slot_tuple_index PySem.F.type_tuple_index mt_indexT (pe_ix ix_tup (pe_ix ix_tup (pv 0) pe_int (fun _ _ => rfl)) (pe_op op_sub (pv 3) pe_int) (fun _ _ => rfl)) (pa_cons (pv 2) pa_nil))))), ?_⟩
  try dsimp only [cxOf]
  have hc : cols[j]? = some cols[j] := List.getElem?_eq_getElem hj
  have C := N.col _ (List.getElem_mem hj)
  obtain ⟨ca, hca, hcaS⟩ := h6.at hc
  obtain ⟨c', z, hc', hz, z0, z1, enx⟩ := N.nx (sd := sd) i0 i1 hj
  rw [enx] at k
  cases sd with
  | true =>
    have e : c' = cols[j] := by
      have : cols[j]? = some c' := hc'
      rw [hc] at this
      exact (Option.some.inj this).symm
    subst e
    w_fin
    refine st_two (fun c => ?_) (fun c => absurd rfl c)
    w_fin
    refine st_ixT h2 (at_of (j := j) (by omega) hca) ?_
    w_fin
    refine st_ixT hcaS.1 (at_of (j := i.toNat) (v := .int z) (by omega) (by rw [List.getElem?_map, hz]; rfl)) ?_
    exact k
  | false =>
    have e : c' = back n cols[j] := by
      have : (cols.map (back n))[j]? = some c' := hc'
      rw [List.getElem?_map, hc] at this
      exact (Option.some.inj this).symm
    subst e
    have ez : z = spotN cols[j] i := by
      rw [back_at i0 i1] at hz
      exact (Option.some.inj hz).symm
    subst ez
    w_fin
    refine st_two (fun c => absurd c (by decide)) (fun c => ?_)
    w_fin
    refine st_ixT h2 (at_of (j := j) (by omega) hca) ?_
    w_fin
    refine ⟨⟨_, rfl, hcaS.2⟩, ?_⟩
    w_fin
    exact indexT_flat C i0 i1 hcaS.1 k
/-- the law's own view -/
def spBranch (K : PySem.W.Frag) (lvl : Nat) : Sp := fun vs H Q _ => ∃ (a : Addr) (sd : Bool) (i b : Int) (T n : Nat) (cols : List (List Int)) (ws bs : List Int), vs = [.ref a, .int (sdI sd), .int i, .int T, .int b] ∧ NetV K H a n cols ws bs ∧ Net n cols ws bs ∧ 0 ≤ i ∧ i < n ∧ T < lvl ∧
  ∀ (p : Addr) (H' : Hp), Same H H' → Dt K H' (.ref p) (gview (nfun ws bs) (nnx n cols) cols.length T (sd, i) b) → Q (.ref p) H'
theorem sdI_not (sd : Bool) : 1 - sdI sd = sdI (!sd) := by cases sd <;> rfl
set_option maxHeartbeats 1000000 in
theorem ok_branch (lvl : Nat) {f : Addr} {fd : FuncData} (B : Blt mg) (g_law_behind : Has P w K mg base CX0 1 "_law_behind" ["network", "side", "node", "colour"] (spBehindI K))
    (g_law_branch : Has P w K mg base CX0 (lvl + 1) "_law_branch" ["network", "side", "node", "reach", "colour"] (spBranch K lvl)) (F : Fun K "_law_branch" "_law_branch" s_law_branch f fd) : FnOk P w K mg base CX0 (lvl + 2) f fd ["network", "side", "node", "reach", "colour"] (spBranch K (lvl + 1)) := by
  have sc : FnScope ["network", "side", "node", "reach", "colour", "here", "parts", "c"] ["network", "side", "node", "reach", "colour"] (defScope s_law_branch) := ⟨rfl, rfl, rfl, by decide +kernel, rfl, by decide +kernel, by decide +kernel⟩
  refine F.ok sc (fun vs H Q E h => ?_) (fun cdv A outer s H vs Q E hr h => ?_)
  · obtain ⟨_, _, _, _, _, _, _, _, _, rfl, _⟩ := h
    rfl
  obtain ⟨a, sd, i, b, T, n, cols, ws, bs, rfl, hV, N, i0, i1, hT, k⟩ := h
  obtain ⟨la, wa, ba, cs, h1, h2, h3, h4, h5, h6⟩ := id hV
  refine ⟨_, (pss_cons (ps_set (i := 5) sc.nd rfl (Or.inl rfl) (pe_ix ix_tup (pe_ix ix_tup (pv 0) (pe_op op_add pe_int (pv 1)) (fun _ _ => rfl)) (pv 2) (fun _ _ => rfl)))
    (pss_cons (ps_if (pt_cmpR op_eqi (pv 3) pe_int (nomark _))
      (pss_one (ps_ret (pe_tupN (pa_cons (pv 5) pa_nil))))
      pss_nil)
    (pss_cons (ps_set (i := 6) sc.nd rfl (Or.inl rfl) (pe_lstN pa_nil))
    (pss_cons (ps_for PassesOwn.never rfl (pi_range2 (by rfl) B.range (pa_cons pe_int (pa_cons (pe_op op_add (pe_callB call_len_seq (by rfl) B.len (by decide +kernel) (pa_cons (pe_ix ix_tup (pv 0) pe_int (fun _ _ => rfl)) pa_nil)) pe_int) pa_nil))) (pg_name (i := 7) sc.nd rfl (Or.inl rfl))
      (pss_one (ps_if (pt_cmpR op_eqi (pv 7) (pv 4) (nomark _))
        (pss_one (ps_expr (pe_bm PySem.F.plainAttrs_list PySem.F.slot_list_append PySem.F.type_list_append mt_append (pv 6) (pa_cons pe_non pa_nil))))
        (pss_one (ps_expr (pe_bm PySem.F.plainAttrs_list PySem.F.slot_list_append PySem.F.type_list_append mt_append (pv 6) (pa_cons (pc g_law_branch hr (pa_cons (pv 0) (pa_cons (pe_op op_sub pe_int (pv 1)) (pa_cons (pc g_law_behind hr (pa_cons (pv 0) (pa_cons (pv 1) (pa_cons (pv 2) (pa_cons (pv 7) pa_nil))))) (pa_cons (pe_op op_sub (pv 3) pe_int) (pa_cons (pv 7) pa_nil)))))) pa_nil)))))))
    (pss_one (ps_ret (pe_tupN (pa_cons (pv 5) (pa_cons (pe_callTy (show CallR _ _ (rTupN K) from call_tupN) (by rfl) B.tuple (by decide +kernel) (pa_cons (pv 6) pa_nil)) pa_nil))))))))), ?_⟩
  try dsimp only [cxOf]
  w_fin
  have pick : ∃ l : Addr, atI [V.str "network", .int n, .ref la, .ref wa, .ref ba] (3 + sdI sd) = some (.ref l) ∧ SqT K H l ((if sd then ws else bs).map V.int) := by
    cases sd with
    | true => exact ⟨wa, rfl, h4⟩
    | false => exact ⟨ba, rfl, h5⟩
  obtain ⟨l, hl1, hl2⟩ := pick
  refine st_ixT h1 hl1 ?_
  w_fin
  refine st_ixT hl2 (nfun_at N i0 i1) ?_
  w_fin
  refine st_two (fun c => ?_) (fun c => ?_)
  · obtain rfl : T = 0 := by omega
    w_fin
    intro p H1 _ s1 hp
    exact k p H1 s1 (.tup (SqT.of hp) (.cons (.int _) .nil))
  obtain ⟨S, rfl⟩ : ∃ S, T = S + 1 := ⟨T - 1, by omega⟩
  w_fin
  intro pl H1 hpl s1 epl
  have h11 := s1.seqT h1
  have h21 := s1.seqT h2
  have D4 := N.D4
  have lcs : cs.length = cols.length := h3.len
  w_fin
  refine fr_range (fun j σ H' => ∃ (bv : Option V), σ = [some (.ref a), some (.int (sdI sd)), some (.int i), some (.int ((S + 1 : Nat) : Int)), some (.int b), some (.int (nfun ws bs (sd, i))), some (.ref pl), bv] ∧
    AccD K H pl ((gparts (nfun ws bs) (nnx n cols) cols.length S (sd, i) b).take j) H') ⟨none, rfl, ⟨hpl, s1, [], epl, .nil⟩⟩ ?_ ?_
  · rintro j σ H2 hj ⟨bv, rfl, acc⟩
    have jD : j < cols.length := by omega
    have few : ((gparts (nfun ws bs) (nnx n cols) cols.length S (sd, i) b).take j).length ≤ 100000 := by rw [List.length_take, gparts_len]; omega
    obtain ⟨ac0, e0, _⟩ := acc.ex
    w_fin
    refine st_two (fun c1 => ?_) (fun c1 => ?_)
    · w_fin
      obtain ⟨ac, e1, l1, a4⟩ := acc.push (v := .non) (r := .none) .non
      refine st_app e1 (lt_small (by omega)) ?_
      refine ⟨_, rfl, ?_⟩
      rw [gparts_take jD, if_pos c1]
      exact a4
    · have sH := acc.same
      w_fin
      obtain ⟨c', z, hc', hz, z0, z1, enx⟩ := N.nx (sd := sd) i0 i1 jD
      refine ⟨a, sd, i, j, n, cols, ws, bs, rfl, hV.stay sH.tups, N, i0, i1, jD, ?_⟩
      rw [enx]
      w_fin
      refine ⟨a, !sd, z, 1 + (j : Int), S, n, cols, ws, bs, ?_, hV.stay sH.tups, N, z0, z1, by omega, fun q H4 s4 hq => ?_⟩
      · rw [show ((S + 1 : Nat) : Int) - 1 = (S : Int) by omega, sdI_not]
      w_fin
      obtain ⟨ac, e1, l1, a5⟩ := (acc.step s4).push hq
      refine st_app e1 (lt_small (by omega)) ?_
      refine ⟨_, rfl, ?_⟩
      rw [gparts_take jD, if_neg c1, enx]
      exact a5
  · rintro σ H2 ⟨bv, rfl, acc⟩
    rw [List.take_of_length_le (by rw [gparts_len]; omega)] at acc
    obtain ⟨ac, e1, hac⟩ := acc.ex
    w_fin
    intro t H3 _ s3 ht
    w_fin
    intro p H4 _ s4 hp
    exact k p H4 (acc.same.trans (s3.trans s4)) (.tup (SqT.of hp) (.cons (.int _) (.cons (.tup (SqT.of (s4 _ _ ht)) (hac.stay (s3.trans s4).tups)) .nil)))
theorem has_branch (B : Blt mg) (d : Def K mg "_law_branch" s_law_branch ["network", "side", "node", "reach", "colour"]) (g1 : Has P w K mg base CX0 1 "_law_behind" ["network", "side", "node", "colour"] (spBehindI K)) :
    ∀ n : Nat, Has P w K mg base CX0 (n + 1) "_law_branch" ["network", "side", "node", "reach", "colour"] (spBranch K n)
  | 0 => d.has fun f fd F => by
    have no : ∀ vs H Q E, ¬ spBranch K 0 vs H Q E := fun vs H Q E h => by
      obtain ⟨_, _, _, _, _, _, _, _, _, _, _, _, _, _, h, _⟩ := h
      omega
    exact ⟨fun vs H Q E h => absurd h (no vs H Q E), fun A outer s H args us vs Q E _ _ _ _ h => absurd h (no vs H Q E)⟩
  | n + 1 => d.has fun f fd F => ok_branch n B g1 (has_branch B d g1 n) F
end
theorem go_same {H H' : Hp} (g : Go (fun _ => False) H H') : Same H H' := fun b o e => g.out b o (fun z => z) e
section
variable {P : Program} {w : World} {K : PySem.W.Frag} {mg : Str → Option Value} {base : Heap}
/-- a row of tuples of numbers -/
def RowV (K : PySem.W.Frag) (H : Hp) (v : V) (t : List (List Int)) : Prop := ∃ q ys, v = .ref q ∧ SqT K H q ys ∧ SLs (SqT K H) ys t
theorem RowV.stay {H H' : Hp} {v : V} {t : List (List Int)} (s : TupsStay H H') (h : RowV K H v t) : RowV K H' v t := by
  obtain ⟨q, ys, e, h1, h2⟩ := h
  exact ⟨q, ys, e, s.seq h1, h2.imp fun _ _ z => s.seq z⟩
def RowsV (K : PySem.W.Frag) (H : Hp) (xs : List V) (tt : List (List (List Int))) : Prop := xs.length = tt.length ∧ ∀ (c : Nat) (t : List (List Int)), tt[c]? = some t → ∃ v, xs[c]? = some v ∧ RowV K H v t
theorem RowsV.nil {H : Hp} : RowsV K H [] [] := ⟨rfl, fun c t h => by simp at h⟩
theorem RowsV.stay {H H' : Hp} {xs : List V} {tt : List (List (List Int))} (s : TupsStay H H') (h : RowsV K H xs tt) : RowsV K H' xs tt :=
  ⟨h.1, fun c t e => by
    obtain ⟨v, hv, r⟩ := h.2 c t e
    exact ⟨v, hv, r.stay s⟩⟩
theorem RowsV.push {H : Hp} {xs : List V} {tt : List (List (List Int))} {v : V} {t : List (List Int)} (h : RowsV K H xs tt) (r : RowV K H v t) : RowsV K H (xs ++ [v]) (tt ++ [t]) :=
  ⟨by rw [List.length_append, List.length_append, h.1]; rfl, fun c u e => by
    by_cases hc : c < tt.length
    · rw [List.getElem?_append_left hc] at e
      obtain ⟨v', hv, r'⟩ := h.2 c u e
      exact ⟨v', by rw [List.getElem?_append_left (by rw [h.1]; exact hc)]; exact hv, r'⟩
    · rw [List.getElem?_append_right (by omega)] at e
      have e2 : c - tt.length = 0 := by
        have := (List.getElem?_eq_some_iff.mp e).1
        simp at this
        omega
      rw [e2] at e
      simp at e
      subst e
      exact ⟨v, by rw [List.getElem?_append_right (by rw [h.1]; omega), h.1, e2]; rfl, r⟩⟩
structure Turns (tt : List (List (List Int))) (D n m : Nat) : Prop where
  len : tt.length = D
  row : ∀ t ∈ tt, t.length = n ∧ ∀ r ∈ t, Col m r
def spTurns (K : PySem.W.Frag) : Sp := fun vs H Q _ => ∃ (h d a : Addr) (ds : List Int) (i m n : Nat) (cols : List (List Int)) (ws bs : List Int), vs = [.ref h, .ref a, .int m] ∧ Hand H h d ds i ∧ NetV K H a n cols ws bs ∧ Net n cols ws bs ∧ 1 ≤ m ∧ m ≤ 1000 ∧
  ∀ (p : Addr) (H' : Hp) (i' : Nat) (xs : List V) (tt : List (List (List Int))), Hand H' h d ds i' → Go (· = h) H H' → SqT K H' p xs → RowsV K H' xs tt → Turns tt cols.length n m → Q (.ref p) H'
set_option maxHeartbeats 1000000 in
theorem ok_turns {f : Addr} {fd : FuncData} (B : Blt mg) (g_law_order : Has P w K mg base CX0 2 "_law_order" ["hand", "many"] (spPopOrder K)) (F : Fun K "_law_turns" "_law_turns" s_law_turns f fd) : FnOk P w K mg base CX0 3 f fd ["hand", "network", "copies"] (spTurns K) := by
  have sc : FnScope ["hand", "network", "copies", "turns", "c", "i"] ["hand", "network", "copies"] (defScope s_law_turns) := ⟨rfl, rfl, rfl, by decide +kernel, rfl, by decide +kernel, by decide +kernel⟩
  refine F.ok sc (fun vs H Q E h => ?_) (fun cdv A outer s H vs Q E hr h => ?_)
  · obtain ⟨_, _, _, _, _, _, _, _, _, _, rfl, _⟩ := h
    rfl
  obtain ⟨h, d, a, ds, i0, m, n, cols, ws, bs, rfl, hh, hV, N, m1, m2, k⟩ := h
  refine ⟨_, (pss_cons (ps_set (i := 3) sc.nd rfl (Or.inl rfl) (pe_lstN pa_nil))
    (pss_cons (ps_for PassesOwn.never rfl (pi_range1 (by rfl) B.range (pa_cons (pe_callB call_len_seq (by rfl) B.len (by decide +kernel) (pa_cons (pe_ix ix_tup (pv 1) pe_int (fun _ _ => rfl)) pa_nil)) pa_nil)) (pg_name (i := 4) sc.nd rfl (Or.inl rfl))
      (pss_one (ps_expr (pe_bm PySem.F.plainAttrs_list PySem.F.slot_list_append PySem.F.type_list_append mt_append (pv 3) (pa_cons (pe_callTy (show CallR _ _ (rTupN K) from call_tupN) (by rfl) B.tuple (by decide +kernel) (pa_cons (pe_lc (own := [("i", 5)]) (g := gName 5) (tt := tYes) rfl sc.nd (pi_range1 (by rfl) B.range (pa_cons (pe_ix ix_tup (pv 1) pe_int (fun _ _ => rfl)) pa_nil)) (blkOk_by (N := ["hand", "network", "copies", "turns", "c", "i"]) (sc := defScope s_law_turns) (by decide +kernel)) (fun _ _ _ _ _ => pg_name (i := 5) sc.nd rfl (Or.inl rfl)) (fun _ _ _ _ _ => pts_nil) (fun _ _ _ _ _ => (pc g_law_order hr (pa_cons (pv 0) (pa_cons (pv 2) pa_nil))))) pa_nil)) pa_nil)))))
    (pss_one (ps_ret (pe_callTy (show CallR _ _ (rTupN K) from call_tupN) (by rfl) B.tuple (by decide +kernel) (pa_cons (pv 3) pa_nil)))))), ?_⟩
  try dsimp only [cxOf]
  have D4 := N.D4
  have few := N.few
  w_fin
  intro tp H1 htp s1 etp
  obtain ⟨nh, nd⟩ := hand_out hh htp
  obtain ⟨la, wa, ba, cs, h1, h2, h3, h4, h5, h6⟩ := id (hV.stay s1.tups)
  have lcs : cs.length = cols.length := h3.len
  w_fin
  refine fr_range (fun i σ H' => ∃ (mm : Nat) (xs : List V) (tt : List (List (List Int))) (cv iv : Option V), σ = [some (.ref h), some (.ref a), some (.int m), some (.ref tp), cv, iv] ∧ Hand H' h d ds mm ∧ Go (· = h) H H' ∧ H' tp = some (.lst xs) ∧ RowsV K H' xs tt ∧ Turns tt i n m)
    ⟨i0, [], [], none, none, rfl, hh.same s1, s1.go, etp, RowsV.nil, ⟨rfl, fun t ht => by cases ht⟩⟩ ?_ ?_
  · rintro i σ H2 hi ⟨mm, xs, tt, cv, iv, rfl, hh2, g2, etp2, R, U⟩
    obtain ⟨la, wa, ba, cs, h1, h2, h3, h4, h5, h6⟩ := id (hV.stay g2.tups)
    have lx : xs.length = tt.length := R.1
    have lt := U.len
    w_fin
    intro rp hrp
    obtain ⟨nrh, nrd⟩ := hand_out hh2 hrp
    refine itr_walk (lo := 0) (n := ((n : Nat) : Int).toNat) (fun j H' => ∃ (m3 : Nat) (rs : List (List Int)), GS K (· = h) H2 rp rs H' ∧ Hand H' h d ds m3 ∧ rs.length = j ∧ ∀ r ∈ rs, Col m r) ⟨mm, [], GS.start hrp, hh2.new hrp _, rfl, fun c hc => by cases hc⟩ ?_ ?_
    · rintro j H3 hj ⟨m3, rs, acc, hh3, len, C⟩
      w_fin
      refine ⟨h, d, ds, m3, m, rfl, hh3, m1, m2, fun p H4 m4 c hh4 g4 hp hc => ?_⟩
      obtain ⟨ac, e, f, a⟩ := (acc.step nrh g4).push hp.1 (by omega)
      refine ⟨_, e, f, m4, _, a, hh4.off nrh nrd _, by rw [List.length_append, len]; rfl, fun c' hc' => ?_⟩
      rcases List.mem_append.mp hc' with q | q
      · exact C c' q
      · rw [List.mem_singleton.mp q]
        exact hc
    rintro H3 ⟨m3, rs, acc, hh3, len, C⟩
    obtain ⟨ac, eac, hac⟩ := acc.ex
    have etp3 := acc.go.out _ _ nh etp2
    w_fin
    intro t H4 _ s4 ht
    have etp4 := s4 _ _ etp3
    w_fin
    refine st_app etp4 (lt_small (by omega)) ?_
    have g4 : Go (· = h) H2 H4 := acc.go.trans s4.go
    have t5 := tups_lst (ys := xs ++ [.ref t]) etp4
    refine ⟨m3, xs ++ [.ref t], tt ++ [rs], _, _, rfl, (hh3.same s4).off nh nd _, go_own (g2.trans g4) htp etp4 _, upd_same, (R.stay (g4.tups.trans t5)).push ⟨t, ac, rfl, t5.seq (SqT.of ht), hac.imp fun _ _ z => t5.seq (s4.seqT z)⟩, ⟨by rw [List.length_append, lt]; rfl, fun t' ht' => ?_⟩⟩
    rcases List.mem_append.mp ht' with q | q
    · exact U.row t' q
    · rw [List.mem_singleton.mp q]
      exact ⟨by omega, C⟩
  · rintro σ H2 ⟨mm, xs, tt, cv, iv, rfl, hh2, g2, etp2, R, U⟩
    w_fin
    intro t H3 _ s3 ht
    refine k t H3 mm xs tt (hh2.same s3) (g2.trans s3.go) (SqT.of ht) (R.stay s3.tups) ?_
    rwa [show (((cs.length : Nat) : Int)).toNat = cols.length by omega] at U
end
/-! ### covers -/
def covBlk (m : Int) (x : Int × List Int) : List Int := x.2.map fun t => x.1 * m + t
def covCol (m : Int) (c : List Int) (t : List (List Int)) : List Int := (c.zip t).flatMap (covBlk m)
def covIn (n m : Nat) (ws : List Int) : List Int := (rgn (n * m)).map fun k => atN ws (k / (m : Int))
theorem rgn_mul (m : Nat) : ∀ n : Nat, (rgn n).flatMap (fun z => (rgn m).map fun t => z * (m : Int) + t) = rgn (n * m)
  | 0 => by simp [rgn]
  | n + 1 => by
    have e : rgn (n + 1) = rgn n ++ [(n : Int)] := by simp [rgn, List.range_succ]
    rw [e, List.flatMap_append, rgn_mul m n, Nat.succ_mul]
    unfold rgn
    rw [List.range_add, List.map_append]
    congr 1
    simp only [List.flatMap_cons, List.flatMap_nil, List.append_nil, List.map_map]
    refine List.map_congr_left fun t _ => ?_
    show (n : Int) * (m : Int) + (t : Int) = ((n * m + t : Nat) : Int)
    rw [Int.natCast_add, Int.natCast_mul]
theorem zip_perm {m : Nat} : ∀ {c : List Int} {t : List (List Int)}, c.length = t.length → (∀ r ∈ t, Col m r) → (covCol m c t).Perm (c.flatMap fun z => (rgn m).map fun t => z * (m : Int) + t)
  | [], _, _, _ => by simp [covCol]
  | z :: c, [], l, _ => by simp at l
  | z :: c, r :: t, l, h => by
    have e : covCol m (z :: c) (r :: t) = r.map (fun t => z * (m : Int) + t) ++ covCol m c t := rfl
    rw [e, List.flatMap_cons]
    exact List.Perm.append (List.Perm.map _ (h r List.mem_cons_self)) (zip_perm (by simpa using l) fun r hr => h r (List.mem_cons_of_mem _ hr))
theorem cov_col {n m : Nat} {c : List Int} {t : List (List Int)} (hc : Col n c) (l : t.length = n) (h : ∀ r ∈ t, Col m r) : Col (n * m) (covCol m c t) := by
  refine (zip_perm (by rw [hc.len, l]) h).trans ?_
  unfold Col at *
  rw [← rgn_mul]
  exact List.Perm.flatMap_right _ hc
theorem cov_take {m : Int} {c : List Int} {t : List (List Int)} {i : Nat} {z : Int} {r : List Int} (hz : c[i]? = some z) (hr : t[i]? = some r) : ((c.zip t).take (i + 1)).flatMap (covBlk m) = ((c.zip t).take i).flatMap (covBlk m) ++ r.map (fun t => z * m + t) := by
  have e : (c.zip t)[i]? = some (z, r) := by
    rw [List.getElem?_zip_eq_some]
    exact ⟨hz, hr⟩
  rw [take_more e, List.flatMap_append]
  congr 1
  simp [covBlk]
theorem cov_len {m : Int} {k : Nat} : ∀ {l : List (Int × List Int)}, (∀ x ∈ l, x.2.length = k) → (l.flatMap (covBlk m)).length = l.length * k
  | [], _ => by simp
  | x :: l, h => by
    rw [List.flatMap_cons, List.length_append, cov_len fun y hy => h y (List.mem_cons_of_mem _ hy), List.length_cons, Nat.succ_mul, Nat.add_comm]
    congr 1
    rw [covBlk, List.length_map]
    exact h x List.mem_cons_self
section
variable {P : Program} {w : World} {K : PySem.W.Frag} {mg : Str → Option Value} {base : Heap}
def spCover (K : PySem.W.Frag) : Sp := fun vs H Q _ => ∃ (a b : Addr) (n m : Nat) (cols : List (List Int)) (ws bs : List Int) (xs : List V) (tt : List (List (List Int))), vs = [.ref a, .ref b] ∧ NetV K H a n cols ws bs ∧ Net n cols ws bs ∧ 1 ≤ cols.length ∧ SqT K H b xs ∧ RowsV K H xs tt ∧ Turns tt cols.length n m ∧ 1 ≤ m ∧ n * m ≤ 1000 ∧
  ∀ (p : Addr) (H' : Hp), Same H H' → NetV K H' p (n * m) ((cols.zip tt).map fun x => covCol m x.1 x.2) (covIn n m ws) (covIn n m bs) → Q (.ref p) H'
theorem covIn_len {n m : Nat} {ws : List Int} : (covIn n m ws).length = n * m := by rw [covIn, List.length_map, rgn_len]
theorem cov_net {n m : Nat} {cols : List (List Int)} {ws bs : List Int} {tt : List (List (List Int))} (N : Net n cols ws bs) (U : Turns tt cols.length n m) (m1 : 1 ≤ m) (nm : n * m ≤ 1000) : Net (n * m) ((cols.zip tt).map fun x => covCol m x.1 x.2) (covIn n m ws) (covIn n m bs) := by
  have p := N.pos
  refine ⟨Nat.mul_pos p m1, nm, fun c hc => ?_, ?_, covIn_len, covIn_len, fun z hz => ?_, fun z hz => ?_⟩
  · obtain ⟨x, hx, rfl⟩ := List.mem_map.mp hc
    obtain ⟨hx1, hx2⟩ := List.of_mem_zip hx
    have r := U.row _ hx2
    exact cov_col (N.col _ hx1) r.1 r.2
  · rw [List.length_map, List.length_zip, U.len, Nat.min_self]
    exact N.D4
  · obtain ⟨k, _, rfl⟩ := List.mem_map.mp hz
    exact getD_range (n := n) (by decide) N.wr
  · obtain ⟨k, _, rfl⟩ := List.mem_map.mp hz
    exact getD_range (n := n) (by decide) N.br
set_option maxHeartbeats 2000000 in
theorem ok_cover {f : Addr} {fd : FuncData} (B : Blt mg) (F : Fun K "_law_cover" "_law_cover" s_law_cover f fd) : FnOk P w K mg base CX0 1 f fd ["network", "turns"] (spCover K) := by
  have sc : FnScope ["network", "turns", "copies", "links", "c", "sides", "inputs", "row", "i", "s", "k"] ["network", "turns"] (defScope s_law_cover) := ⟨rfl, rfl, rfl, by decide +kernel, rfl, by decide +kernel, by decide +kernel⟩
  refine F.ok sc (fun vs H Q E h => ?_) (fun cdv A outer s H vs Q E hr h => ?_)
  · obtain ⟨_, _, _, _, _, _, _, _, _, rfl, _⟩ := h
    rfl
  obtain ⟨a, b, n, m, cols, ws, bs, xs, tt, rfl, hV, N, D1, hb, R, U, m1, nm, k⟩ := h
  refine ⟨_, (pss_cons (ps_set (i := 2) sc.nd rfl (Or.inr rfl) (pe_callB call_len_seq (by rfl) B.len (by decide +kernel) (pa_cons (pe_ix ix_tup (pe_ix ix_tup (pv 1) pe_int (fun _ _ => rfl)) pe_int (fun _ _ => rfl)) pa_nil)))
    (pss_cons (ps_set (i := 3) sc.nd rfl (Or.inl rfl) (pe_lstN pa_nil))
    (pss_cons (ps_for PassesOwn.never rfl (pi_range1 (by rfl) B.range (pa_cons (pe_callB call_len_seq (by rfl) B.len (by decide +kernel) (pa_cons (pv 1) pa_nil)) pa_nil)) (pg_name (i := 4) sc.nd rfl (Or.inl rfl))
      (pss_cons (ps_set (i := 7) sc.nd rfl (Or.inl rfl) (pe_lstN pa_nil))
      (pss_cons (ps_for PassesOwn.never rfl (pi_range1 (by rfl) B.range (pa_cons (pe_ix ix_tup (pv 0) pe_int (fun _ _ => rfl)) pa_nil)) (pg_name (i := 8) sc.nd rfl (Or.inl rfl))
        (pss_one (ps_for PassesOwn.never rfl (pi_range1 (by rfl) B.range (pa_cons (pv 2) pa_nil)) (pg_name (i := 9) sc.nd rfl (Or.inl rfl))
          (pss_one (ps_expr (pe_bm PySem.F.plainAttrs_list PySem.F.slot_list_append PySem.F.type_list_append mt_append (pv 7) (pa_cons (pe_op op_add (pe_op op_mul (pe_ix ix_tup (pe_ix ix_tup (pe_ix ix_tup (pv 0) pe_int (fun _ _ => rfl)) (pv 4) (fun _ _ => rfl)) (pv 8) (fun _ _ => rfl)) (pv 2)) (pe_ix ix_tup (pe_ix ix_tup (pe_ix ix_tup (pv 1) (pv 4) (fun _ _ => rfl)) (pv 8) (fun _ _ => rfl)) (pv 9) (fun _ _ => rfl))) pa_nil)))))))
      (pss_one (ps_expr (pe_bm PySem.F.plainAttrs_list PySem.F.slot_list_append PySem.F.type_list_append mt_append (pv 3) (pa_cons (pe_callTy (show CallR _ _ (rTupF K) from call_tupF) (by rfl) B.tuple (by decide +kernel) (pa_cons (pv 7) pa_nil)) pa_nil)))))))
    (pss_cons (ps_set (i := 5) sc.nd rfl (Or.inl rfl) (pe_lstN pa_nil))
    (pss_cons (ps_for PassesOwn.never rfl (pi_tup (pe_tupN (pa_cons (pe_ix ix_tup (pv 0) pe_int (fun _ _ => rfl)) (pa_cons (pe_ix ix_tup (pv 0) pe_int (fun _ _ => rfl)) pa_nil)))) (pg_name (i := 6) sc.nd rfl (Or.inr rfl))
      (pss_one (ps_expr (pe_bm PySem.F.plainAttrs_list PySem.F.slot_list_append PySem.F.type_list_append mt_append (pv 5) (pa_cons (pe_callTy (show CallR _ _ (rTupF K) from call_tupF) (by rfl) B.tuple (by decide +kernel) (pa_cons (pe_lc (own := [("k", 10)]) (g := gName 10) (tt := tYes) rfl sc.nd (pi_range1 (by rfl) B.range (pa_cons (pe_op op_mul (pe_ix ix_tup (pv 0) pe_int (fun _ _ => rfl)) (pv 2)) pa_nil)) (blkOk_by (N := ["network", "turns", "copies", "links", "c", "sides", "inputs", "row", "i", "s", "k"]) (sc := defScope s_law_cover) (by decide +kernel)) (fun _ _ _ _ _ => pg_name (i := 10) sc.nd rfl (Or.inl rfl)) (fun _ _ _ _ _ => pts_nil) (fun _ _ _ _ _ => (pe_ix (show IxR _ (rIxT K) from ix_tup) (pv 6) (pe_op op_fdiv (pv 10) (pv 2)) (fun _ _ => rfl)))) pa_nil)) pa_nil)))))
    (pss_one (ps_ret (pe_tupN (pa_cons pe_str (pa_cons (pe_op op_mul (pe_ix ix_tup (pv 0) pe_int (fun _ _ => rfl)) (pv 2)) (pa_cons (pe_callTy (show CallR _ _ (rTupF K) from call_tupF) (by rfl) B.tuple (by decide +kernel) (pa_cons (pv 3) pa_nil)) (pa_cons (pe_ix ix_list (pv 5) pe_int (fun _ _ => rfl)) (pa_cons (pe_ix ix_list (pv 5) pe_int (fun _ _ => rfl)) pa_nil))))))))))))), ?_⟩
  try dsimp only [cxOf]
  have D4 := N.D4
  have few := N.few
  have n1 := N.pos
  have mm : m ≤ 1000 := Nat.le_trans (Nat.le_mul_of_pos_left m n1) nm
  have ltt := U.len
  have lxs : xs.length = tt.length := R.1
  have cross : (n : Int) * (m : Int) = ((n * m : Nat) : Int) := (Int.natCast_mul n m).symm
  obtain ⟨t0, ht0⟩ : ∃ t, tt[0]? = some t := ⟨_, List.getElem?_eq_getElem (by omega)⟩
  obtain ⟨lt0, ct0⟩ := U.row _ (List.mem_of_getElem? ht0)
  obtain ⟨r0, hr0⟩ : ∃ r, t0[0]? = some r := ⟨_, List.getElem?_eq_getElem (by omega)⟩
  have lr0 := (ct0 r0 (List.mem_of_getElem? hr0)).len
  obtain ⟨v0, hv0, q0, ys0, rfl, hq0, hys0⟩ := R.2 0 t0 ht0
  obtain ⟨ra, hra, hraS⟩ := hys0.at hr0
  w_fin
  refine st_ixT hb (at_of (j := 0) rfl hv0) ?_
  w_fin
  refine st_ixT hq0 (at_of (j := 0) rfl hra) ?_
  w_fin
  rw [List.length_map, lr0]
  intro lp H1 hlp s1 elp
  have hb1 := s1.seqT hb
  w_fin
  refine fr_range (fun i σ H' => ∃ (cv rv iv sv : Option V), σ = [some (.ref a), some (.ref b), some (.int m), some (.ref lp), cv, none, none, rv, iv, sv, none] ∧ GN K (fun _ => False) H lp (((cols.zip tt).take i).map fun x => covCol m x.1 x.2) H')
    ⟨none, none, none, none, rfl, ⟨hlp, s1.go, [], elp, .nil⟩⟩ ?_ ?_
  · rintro i σ H2 hi ⟨cv, rv, iv, sv, rfl, acc⟩
    have s2 := go_same acc.go
    obtain ⟨la, wa, ba, cs, h1, h2, h3, h4, h5, h6⟩ := id (hV.stay s2.tups)
    obtain ⟨c, hc⟩ : ∃ c, cols[i]? = some c := ⟨_, List.getElem?_eq_getElem (by omega)⟩
    obtain ⟨t, ht⟩ : ∃ t, tt[i]? = some t := ⟨_, List.getElem?_eq_getElem (by omega)⟩
    have C := N.col c (List.mem_of_getElem? hc)
    have ut := U.row t (List.mem_of_getElem? ht)
    obtain ⟨ca, hca, hcaS⟩ := h3.at hc
    obtain ⟨v, hv, q, ys, rfl, hq, hys⟩ := (R.stay s2.tups).2 i t ht
    have hb2 := s2.seqT hb
    obtain ⟨lac, elp2, hlac⟩ := acc.ex
    have llac : lac.length = i := by
      have := hlac.len
      rw [List.length_map, List.length_take, List.length_zip] at this
      omega
    w_fin
    intro rp H3 hrp s3 erp
    have h13 := s3.seqT h1
    have h23 := s3.seqT h2
    have hb3 := s3.seqT hb2
    w_fin
    refine fr_range (fun j σ H' => ∃ (iv sv : Option V), σ = [some (.ref a), some (.ref b), some (.int m), some (.ref lp), some (.int (0 + (i : Int))), none, none, some (.ref rp), iv, sv, none] ∧ AccI H2 rp (((c.zip t).take j).flatMap (covBlk m)) H') ⟨_, _, rfl, ⟨hrp, s3, erp⟩⟩ ?_ ?_
    · rintro j σ H4 hj ⟨iv, sv, rfl, ar⟩
      obtain ⟨z, hz, z0, z1⟩ := C.at (i := (j : Int)) (by omega) (by omega)
      rw [show ((j : Int)).toNat = j by omega] at hz
      obtain ⟨r, hr⟩ : ∃ r, t[j]? = some r := ⟨_, List.getElem?_eq_getElem (by omega)⟩
      have lr := (ut.2 r (List.mem_of_getElem? hr)).len
      obtain ⟨ra, hra, hraS⟩ := hys.at hr
      w_fin
      refine fr_range (fun l σ H' => ∃ (sv : Option V), σ = [some (.ref a), some (.ref b), some (.int m), some (.ref lp), some (.int (0 + (i : Int))), none, none, some (.ref rp), some (.int (0 + (j : Int))), sv, none] ∧ AccI H2 rp (((c.zip t).take j).flatMap (covBlk m) ++ (r.take l).map (fun t => z * m + t)) H') ⟨_, rfl, by simpa using ar⟩ ?_ ?_
      · rintro l σ H5 hl ⟨sv, rfl, ar⟩
        have s5 := ar.same
        have erp5 := ar.ex
        obtain ⟨y, hy⟩ : ∃ y, r[l]? = some y := ⟨_, List.getElem?_eq_getElem (by omega)⟩
        have h15 := s5.seqT h1
        have hb5 := s5.seqT hb2
        w_fin
        refine st_ixT (s5.seqT h2) (at_of (j := i) (by omega) hca) ?_
        w_fin
        refine st_ixT (s5.seqT hcaS) (at_of (j := j) (v := .int z) (by omega) (by rw [List.getElem?_map, hz]; rfl)) ?_
        w_fin
        refine st_ixT hb5 (at_of (j := i) (by omega) hv) ?_
        w_fin
        refine st_ixT (s5.seqT hq) (at_of (j := j) (by omega) hra) ?_
        w_fin
        refine st_ixT (s5.seqT hraS) (at_of (j := l) (v := .int y) (by omega) (by rw [List.getElem?_map, hy]; rfl)) ?_
        w_fin
        have few2 : (((c.zip t).take j).flatMap (covBlk m) ++ (r.take l).map (fun t => z * (m : Int) + t)).length ≤ 100000 := by
          rw [List.length_append, List.length_map, List.length_take, cov_len (k := m) fun x hx => (ut.2 _ (List.of_mem_zip (List.mem_of_mem_take hx)).2).len, List.length_take, List.length_zip, C.len]
          have := Nat.mul_le_mul_right m (show min j (min n t.length) ≤ n by omega)
          omega
        refine st_app erp5 (lt_small (by rw [List.length_map]; exact few2)) ?_
        refine ⟨_, rfl, ?_⟩
        have := ar.push (z * (m : Int) + y)
        rw [take_more hy, List.map_append, ← List.append_assoc]
        exact this
      · rintro σ H5 ⟨sv, rfl, ar⟩
        rw [List.take_of_length_le (l := r) (by omega), ← cov_take hz hr] at ar
        exact ⟨_, _, rfl, ar⟩
    · rintro σ H4 ⟨iv, sv, rfl, ar⟩
      rw [List.take_of_length_le (by rw [List.length_zip, C.len]; omega)] at ar
      have elp4 := ar.same _ _ elp2
      have erp4 := ar.ex
      w_fin
      intro tp H5 _ s5 htp hnd
      have elp5 := s5 _ _ elp4
      w_fin
      have acc5 := acc.step (M := fun _ => False) (fun z => z) (ar.same.trans s5).go
      obtain ⟨ac, e, f, a2⟩ := acc5.push (c := covCol m c t) ⟨htp, hnd⟩ (by rw [List.length_map, List.length_take, List.length_zip]; omega)
      refine st_app e f ?_
      refine ⟨_, _, _, _, rfl, ?_⟩
      have ez : (cols.zip tt)[i]? = some (c, t) := by
        rw [List.getElem?_zip_eq_some]
        exact ⟨hc, ht⟩
      rw [take_more ez, List.map_append]
      exact a2
  · rintro σ H2 ⟨cv, rv, iv, sv, rfl, acc⟩
    rw [List.take_of_length_le (by rw [List.length_zip]; omega)] at acc
    have s2 := go_same acc.go
    obtain ⟨la, wa, ba, cs, h1, h2, h3, h4, h5, h6⟩ := id (hV.stay s2.tups)
    obtain ⟨lac, elp2, hlac⟩ := acc.ex
    w_fin
    intro sl H3 hsl s3 esl
    have h13 := s3.seqT h1
    w_fin
    intro ip H4 _ s4 hip
    have s34 := s3.trans s4
    have s24 := s2.trans s34
    refine ⟨ip, rfl, ⟨_, SqT.of hip⟩, ?_⟩
    refine fr_tup (xs := [.ref wa, .ref ba]) (fun i σ H' => ∃ (xv kv : Option V), σ = [some (.ref a), some (.ref b), some (.int m), some (.ref lp), cv, some (.ref sl), xv, rv, iv, sv, kv] ∧ GS K (fun _ => False) H2 sl ([covIn n m ws, covIn n m bs].take i) H' ∧ Go (· = sl) H4 H')
      ⟨none, none, rfl, ⟨hsl, s34.go, [], s4 _ _ esl, .nil⟩, Go.refl _⟩ (fun i σ H' _ z => by
        obtain ⟨_, _, _, _, s⟩ := z
        exact s.seqT (SqT.of hip)) ?_ ?_
    · rintro i x σ H5 hi ⟨xv, kv, rfl, as, s5⟩
      have il : i < 2 := (List.getElem?_eq_some_iff.mp hi).1
      obtain ⟨la2, inp, rfl, hinp, linp, hcov⟩ : ∃ (l : Addr) (inp : List Int), x = .ref l ∧ SqT K H2 l (inp.map V.int) ∧ inp.length = n ∧ [covIn n m ws, covIn n m bs][i]? = some (covIn n m inp) := by
        match i, hi with
        | 0, hi => exact ⟨wa, ws, (Option.some.inj hi).symm, h4, N.wl, rfl⟩
        | 1, hi => exact ⟨ba, bs, (Option.some.inj hi).symm, h5, N.bl, rfl⟩
      have s25 := go_same as.go
      have h15 := s25.seqT h1
      obtain ⟨sac, es5, hsac⟩ := as.ex
      have lsac : sac.length ≤ 2 := by
        have := hsac.len
        rw [List.length_take] at this
        simp at this
        omega
      w_fin
      intro ql hql
      refine itr_walk (lo := 0) (n := ((n : Int) * (m : Int)).toNat) (fun j H' => AccI H5 ql ((covIn n m inp).take j) H') (AccI.start hql) ?_ ?_
      · rintro j H6 hj ar
        have jl : j < n * m := by omega
        have h16 := ar.same.seqT h15
        have q0 : 0 ≤ (0 + (j : Int)) / (m : Int) := Int.ediv_nonneg (by omega) (by omega)
        have q1 : (0 + (j : Int)) / (m : Int) < n := Int.ediv_lt_of_lt_mul (by omega) (by rw [cross]; omega)
        obtain ⟨z, hz, _, hat⟩ := at_int (ns := inp) q0 (by rw [linp]; exact q1)
        w_fin
        refine st_ixT (ar.same.seqT (s25.seqT hinp)) hat ?_
        refine ar.fin (by rw [List.length_take, covIn_len]; omega) fun H' a2 => ?_
        have e : (covIn n m inp)[j]? = some z := by
          unfold covIn rgn
          rw [List.getElem?_map, List.getElem?_map, List.getElem?_range jl]
          unfold atN
          rw [Int.zero_add] at hz
          simp [hz]
        rw [take_more e]
        exact a2
      · intro H6 ar
        rw [List.take_of_length_le (by rw [covIn_len]; omega)] at ar
        have eq6 := ar.ex
        have es6 := ar.same _ _ es5
        w_fin
        intro tp H7 _ s7 htp hnd
        have es7 := s7 _ _ es6
        w_fin
        obtain ⟨ac, e, f, a2⟩ := (as.step (M := fun _ => False) (fun z => z) (ar.same.trans s7).go).push (c := covIn n m inp) htp (by rw [List.length_take]; simp; omega)
        refine st_app e f ?_
        refine ⟨_, _, rfl, ?_, ?_⟩
        · rw [take_more hcov]
          exact a2
        · exact (s5.trans (ar.same.trans s7).go).trans (Go.put rfl e)
    · rintro σ H5 ⟨xv, kv, rfl, as, s5⟩
      have s25 := go_same as.go
      have h15 := s25.seqT h1
      have elp5 := s25 _ _ elp2
      obtain ⟨sac, es5, hsac⟩ := as.ex
      obtain ⟨w2, b2, rfl, hw2, hb2⟩ : ∃ w2 b2, sac = [.ref w2, .ref b2] ∧ SqT K H5 w2 ((covIn n m ws).map V.int) ∧ SqT K H5 b2 ((covIn n m bs).map V.int) := by
        cases hsac with | @cons w2 _ _ _ x1 y1 =>
        cases y1 with | @cons b2 _ _ _ x2 y2 =>
        cases y2
        exact ⟨w2, b2, rfl, x1, x2⟩
      w_fin
      intro tp H6 _ s6 htp hnd
      have es6 := s6 _ _ es5
      w_fin
      rw [cross]
      intro p H7 _ s7 hp
      have s27 := s25.trans (s6.trans s7)
      have hl7 := hlac.imp fun _ _ z => z.stay s27.tups
      exact k p H7 (s2.trans s27) ⟨tp, w2, b2, lac, SqT.of hp, s7.seqT htp, hl7.imp fun _ _ z => z.1, (s6.trans s7).seqT hw2, (s6.trans s7).seqT hb2, hl7⟩
end
theorem atN_some {c : List Int} {i : Nat} {z : Int} (h : c[i]? = some z) : atN c (i : Int) = z := by
  unfold atN
  rw [show ((i : Int)).toNat = i by omega, h]
  rfl
theorem at_rgn {n : Nat} {c : List Int} (h : c.length = n) : (rgn n).map (atN c) = c := by
  refine List.ext_getElem? fun i => ?_
  by_cases hi : i < n
  · unfold rgn
    rw [List.getElem?_map, List.getElem?_map, List.getElem?_range hi, List.getElem?_eq_getElem (by omega)]
    simp only [Option.map_some]
    rw [atN_some (List.getElem?_eq_getElem (by omega))]
  · rw [List.getElem?_eq_none (by rw [List.length_map, rgn_len]; omega), List.getElem?_eq_none (by omega)]
theorem spot_rgn {n : Nat} {c : List Int} (h : Col n c) : c.map (spotN c) = rgn n := by
  refine List.ext_getElem? fun i => ?_
  by_cases hi : i < n
  · obtain ⟨z, hz⟩ : ∃ z, c[i]? = some z := ⟨_, List.getElem?_eq_getElem (by rw [h.len]; exact hi)⟩
    unfold rgn
    rw [List.getElem?_map, hz, List.getElem?_map, List.getElem?_range hi]
    simp only [Option.map_some]
    rw [h.spot_of hz]
  · rw [List.getElem?_eq_none (by rw [List.length_map, h.len]; omega), List.getElem?_eq_none (by rw [rgn_len]; omega)]
def mixCol (wo bo c : List Int) : List Int := wo.map fun i => spotN bo (atN c i)
theorem mix_col {n : Nat} {wo bo c : List Int} (hw : Col n wo) (hb : Col n bo) (hc : Col n c) : Col n (mixCol wo bo c) := by
  have e1 : (mixCol wo bo c).Perm ((rgn n).map fun i => spotN bo (atN c i)) := List.Perm.map _ hw
  have e2 : ((rgn n).map fun i => spotN bo (atN c i)) = c.map (spotN bo) := by
    have : c.map (spotN bo) = ((rgn n).map (atN c)).map (spotN bo) := by rw [at_rgn hc.len]
    rw [this, List.map_map]
    rfl
  have e3 : (c.map (spotN bo)).Perm (bo.map (spotN bo)) := List.Perm.map _ (List.Perm.trans hc (List.Perm.symm hb))
  rw [spot_rgn hb] at e3
  rw [e2] at e1
  exact e1.trans e3
section
variable {P : Program} {w : World} {K : PySem.W.Frag} {mg : Str → Option Value} {base : Heap}
def spMixed (K : PySem.W.Frag) : Sp := fun vs H Q _ => ∃ (h d a : Addr) (ds : List Int) (i n : Nat) (cols : List (List Int)) (ws bs : List Int), vs = [.ref h, .ref a] ∧ Hand H h d ds i ∧ NetV K H a n cols ws bs ∧ Net n cols ws bs ∧
  ∀ (p : Addr) (H' : Hp) (i' : Nat) (cols' : List (List Int)) (ws' bs' : List Int), Hand H' h d ds i' → Go (· = h) H H' → NetV K H' p n cols' ws' bs' → Net n cols' ws' bs' → cols'.length = cols.length → (∀ z ∈ ws', z ∈ ws) → (∀ z ∈ bs', z ∈ bs) → Q (.ref p) H'
set_option maxHeartbeats 2000000 in
theorem ok_mixed {f : Addr} {fd : FuncData} (B : Blt mg) (g_law_order : Has P w K mg base CX0 2 "_law_order" ["hand", "many"] (spPopOrder K)) (F : Fun K "_law_mixed_up" "_law_mixed_up" s_law_mixed_up f fd) : FnOk P w K mg base CX0 3 f fd ["hand", "network"] (spMixed K) := by
  have sc : FnScope ["hand", "network", "white", "black", "links", "colour", "inputs", "i"] ["hand", "network"] (defScope s_law_mixed_up) := ⟨rfl, rfl, rfl, by decide +kernel, rfl, by decide +kernel, by decide +kernel⟩
  refine F.ok sc (fun vs H Q E h => ?_) (fun cdv A outer s H vs Q E hr h => ?_)
  · obtain ⟨_, _, _, _, _, _, _, _, _, rfl, _⟩ := h
    rfl
  obtain ⟨h, d, a, ds, i0, n, cols, ws, bs, rfl, hh, hV, N, k⟩ := h
  refine ⟨_, (pss_cons (ps_set (i := 2) sc.nd rfl (Or.inr rfl) (pc g_law_order hr (pa_cons (pv 0) (pa_cons (pe_ix ix_tup (pv 1) pe_int (fun _ _ => rfl)) pa_nil))))
    (pss_cons (ps_set (i := 3) sc.nd rfl (Or.inr rfl) (pc g_law_order hr (pa_cons (pv 0) (pa_cons (pe_ix ix_tup (pv 1) pe_int (fun _ _ => rfl)) pa_nil))))
    (pss_cons (ps_set (i := 4) sc.nd rfl (Or.inl rfl) (pe_lstN pa_nil))
    (pss_cons (ps_for PassesOwn.never rfl (pi_tup (pe_ix ix_tup (pv 1) pe_int (fun _ _ => rfl))) (pg_name (i := 5) sc.nd rfl (Or.inr rfl))
      (pss_one (ps_expr (pe_bm PySem.F.plainAttrs_list PySem.F.slot_list_append PySem.F.type_list_append mt_append (pv 4) (pa_cons (pe_callTy (show CallR _ _ (rTupF K) from call_tupF) (by rfl) B.tuple (by decide +kernel) (pa_cons (pe_lc (own := [("i", 7)]) (g := gName 7) (tt := tYes) rfl sc.nd (pi_range1 (by rfl) B.range (pa_cons (pe_ix ix_tup (pv 1) pe_int (fun _ _ => rfl)) pa_nil)) (blkOk_by (N := ["hand", "network", "white", "black", "links", "colour", "inputs", "i"]) (sc := defScope s_law_mixed_up) (by decide +kernel)) (fun _ _ _ _ _ => pg_name (i := 7) sc.nd rfl (Or.inl rfl)) (fun _ _ _ _ _ => pts_nil) (fun _ _ _ _ _ => (pe_ixTK (K := K) (by rfl) (pv 3) (pa_cons (pe_ix (show IxR _ (rIxT K) from ix_tup) (pv 5) (pe_ix (show IxR _ (rIxT K) from ix_tup) (pv 2) (pv 7) (fun _ _ => rfl)) (fun _ _ => rfl)) pa_nil)))) pa_nil)) pa_nil)))))
    (pss_cons (ps_set (i := 6) sc.nd rfl (Or.inl rfl) (pe_callTy (show CallR _ _ (rTupF K) from call_tupF) (by rfl) B.tuple (by decide +kernel) (pa_cons (pe_lc (own := [("i", 7)]) (g := gName 7) (tt := tYes) rfl sc.nd (pi_range1 (by rfl) B.range (pa_cons (pe_ix ix_tup (pv 1) pe_int (fun _ _ => rfl)) pa_nil)) (blkOk_by (N := ["hand", "network", "white", "black", "links", "colour", "inputs", "i"]) (sc := defScope s_law_mixed_up) (by decide +kernel)) (fun _ _ _ _ _ => pg_name (i := 7) sc.nd rfl (Or.inl rfl)) (fun _ _ _ _ _ => pts_nil) (fun _ _ _ _ _ => (pe_ix (show IxR _ (rIxT K) from ix_tup) (pe_ix (show IxR _ (rIxT K) from ix_tup) (pv 1) pe_int (fun _ _ => rfl)) (pe_ix (show IxR _ (rIxT K) from ix_tup) (pv 2) (pv 7) (fun _ _ => rfl)) (fun _ _ => rfl)))) pa_nil)))
    (pss_one (ps_ret (pe_tupN (pa_cons pe_str (pa_cons (pe_ix ix_tup (pv 1) pe_int (fun _ _ => rfl)) (pa_cons (pe_callTy (show CallR _ _ (rTupF K) from call_tupF) (by rfl) B.tuple (by decide +kernel) (pa_cons (pv 4) pa_nil)) (pa_cons (pv 6) (pa_cons (pe_callTy (show CallR _ _ (rTupF K) from call_tupF) (by rfl) B.tuple (by decide +kernel) (pa_cons (pe_lc (own := [("i", 7)]) (g := gName 7) (tt := tYes) rfl sc.nd (pi_range1 (by rfl) B.range (pa_cons (pe_ix ix_tup (pv 1) pe_int (fun _ _ => rfl)) pa_nil)) (blkOk_by (N := ["hand", "network", "white", "black", "links", "colour", "inputs", "i"]) (sc := defScope s_law_mixed_up) (by decide +kernel)) (fun _ _ _ _ _ => pg_name (i := 7) sc.nd rfl (Or.inl rfl)) (fun _ _ _ _ _ => pts_nil) (fun _ _ _ _ _ => (pe_ix (show IxR _ (rIxT K) from ix_tup) (pe_ix (show IxR _ (rIxT K) from ix_tup) (pv 1) pe_int (fun _ _ => rfl)) (pe_ix (show IxR _ (rIxT K) from ix_tup) (pv 3) (pv 7) (fun _ _ => rfl)) (fun _ _ => rfl)))) pa_nil)) pa_nil))))))))))))), ?_⟩
  try dsimp only [cxOf]
  have D4 := N.D4
  have few := N.few
  have n1 := N.pos
  obtain ⟨la, wa, ba, cs, h1, h2, h3, h4, h5, h6⟩ := id hV
  w_fin
  refine ⟨h, d, ds, i0, n, rfl, hh, n1, few, fun wp H1 m1 wo hh1 g1 hwp cw => ?_⟩
  have h11 := g1.seqT h1
  w_fin
  refine ⟨h, d, ds, m1, n, rfl, hh1, n1, few, fun bp H2 m2 bo hh2 g2 hbp cb => ?_⟩
  have g02 := g1.trans g2
  have h12 := g02.seqT h1
  have h22 := g02.seqT h2
  have hwp2 := hwp.stay g2.tups
  w_fin
  intro lp H3 hlp s3 elp
  have h13 := s3.seqT h12
  have h23 := s3.seqT h22
  have h33 := h3.imp fun _ _ z => s3.seqT (g02.seqT z)
  w_fin
  refine fr_tup (xs := cs) (fun i σ H' => ∃ (cv iv : Option V), σ = [some (.ref h), some (.ref a), some (.ref wp), some (.ref bp), some (.ref lp), cv, none, iv] ∧ GN K (fun _ => False) H2 lp ((cols.take i).map (mixCol wo bo)) H') ?_ (fun i σ H' _ z => by
    obtain ⟨_, _, _, g⟩ := z
    exact g.go.seqT h22) ?_ ?_
  · exact ⟨none, none, rfl, ⟨hlp, s3.go, [], elp, .nil⟩⟩
  · rintro i x σ H4 hi ⟨cv, iv, rfl, acc⟩
    have s24 := go_same acc.go
    obtain ⟨ca, c, rfl, hc, hcaS⟩ := h3.of hi
    have C := N.col c (List.mem_of_getElem? hc)
    have hca4 := s24.seqT (g02.seqT hcaS)
    have h14 := s24.seqT h12
    have il : i < cols.length := (List.getElem?_eq_some_iff.mp hc).1
    obtain ⟨lac, elp4, hlac⟩ := acc.ex
    w_fin
    intro ql hql
    refine itr_walk (lo := 0) (n := ((n : Nat) : Int).toNat) (fun j H' => AccI H4 ql ((mixCol wo bo c).take j) H') (AccI.start hql) ?_ ?_
    · rintro j H5 hj ar
      have s25 := s24.trans ar.same
      obtain ⟨y, hy, y0, y1⟩ := cw.at (i := (j : Int)) (by omega) (by omega)
      rw [show ((j : Int)).toNat = j by omega] at hy
      obtain ⟨z, hz, z0, z1⟩ := C.at y0 y1
      have hbp5 := hbp.stay s25.tups
      w_fin
      refine ⟨⟨_, rfl, hbp5.2⟩, ?_⟩
      w_fin
      refine st_ixT (s25.seqT hwp2.1) (at_of (j := j) (v := .int y) (by omega) (by rw [List.getElem?_map, hy]; rfl)) ?_
      w_fin
      refine st_ixT (s25.seqT (g02.seqT hcaS)) (at_of (j := y.toNat) (v := .int z) (by omega) (by rw [List.getElem?_map, hz]; rfl)) ?_
      w_fin
      refine indexT_flat cb z0 z1 hbp5.1 ?_
      refine ar.fin (by rw [List.length_take, mixCol, List.length_map, cw.len]; omega) fun H' a2 => ?_
      have e : (mixCol wo bo c)[j]? = some (spotN bo z) := by
        unfold mixCol
        rw [List.getElem?_map, hy]
        simp only [Option.map_some]
        unfold atN
        rw [hz]
        rfl
      rw [take_more e]
      exact a2
    · intro H5 ar
      rw [List.take_of_length_le (by rw [mixCol, List.length_map, cw.len]; omega)] at ar
      have eq5 := ar.ex
      have elp5 := ar.same _ _ elp4
      w_fin
      intro tp H6 _ s6 htp hnd
      have elp6 := s6 _ _ elp5
      w_fin
      obtain ⟨ac, e, f, a2⟩ := (acc.step (M := fun _ => False) (fun z => z) (ar.same.trans s6).go).push (c := mixCol wo bo c) ⟨htp, hnd⟩ (by rw [List.length_map, List.length_take]; omega)
      refine st_app e f ?_
      refine ⟨_, _, rfl, ?_⟩
      rw [take_more hc, List.map_append]
      exact a2
  · rintro σ H4 ⟨cv, iv, rfl, acc⟩
    have lcs : cs.length = cols.length := h3.len
    rw [lcs, List.take_length] at acc
    have s24 := go_same acc.go
    have h14 := s24.seqT h12
    obtain ⟨lac, elp4, hlac⟩ := acc.ex
    w_fin
    intro ql hql
    refine itr_walk (lo := 0) (n := ((n : Nat) : Int).toNat) (fun j H' => AccI H4 ql ((wo.map (atN ws)).take j) H') (AccI.start hql) ?_ ?_
    · rintro j H5 hj ar
      have s25 := s24.trans ar.same
      have h15 := s25.seqT h12
      obtain ⟨y, hy, y0, y1⟩ := cw.at (i := (j : Int)) (by omega) (by omega)
      rw [show ((j : Int)).toNat = j by omega] at hy
      obtain ⟨z, hz, _, hat⟩ := at_int (ns := ws) y0 (by rw [N.wl]; exact y1)
      w_fin
      refine st_ixT (s25.seqT hwp2.1) (at_of (j := j) (v := .int y) (by omega) (by rw [List.getElem?_map, hy]; rfl)) ?_
      w_fin
      refine st_ixT (s25.seqT (g02.seqT h4)) hat ?_
      refine ar.fin (by rw [List.length_take, List.length_map, cw.len]; omega) fun H' a2 => ?_
      have e : (wo.map (atN ws))[j]? = some z := by
        rw [List.getElem?_map, hy]
        simp only [Option.map_some]
        unfold atN
        rw [hz]
        rfl
      rw [take_more e]
      exact a2
    intro H5 ar
    rw [List.take_of_length_le (by rw [List.length_map, cw.len]; omega)] at ar
    have eq5 := ar.ex
    have s25 := s24.trans ar.same
    w_fin
    intro wt H6 _ s6 hwt hnd
    have s26 := s25.trans s6
    have h16 := s26.seqT h12
    have elp6 := s6 _ _ (ar.same _ _ elp4)
    w_fin
    intro tl H7 _ s7 htl _
    have s27 := s26.trans s7
    have h17 := s27.seqT h12
    w_fin
    intro q2 hq2
    refine itr_walk (lo := 0) (n := ((n : Nat) : Int).toNat) (fun j H' => AccI H7 q2 ((bo.map (atN bs)).take j) H') (AccI.start hq2) ?_ ?_
    · rintro j H8 hj ar
      have s28 := s27.trans ar.same
      have h18 := s28.seqT h12
      obtain ⟨y, hy, y0, y1⟩ := cb.at (i := (j : Int)) (by omega) (by omega)
      rw [show ((j : Int)).toNat = j by omega] at hy
      obtain ⟨z, hz, _, hat⟩ := at_int (ns := bs) y0 (by rw [N.bl]; exact y1)
      w_fin
      refine st_ixT (s28.seqT hbp.1) (at_of (j := j) (v := .int y) (by omega) (by rw [List.getElem?_map, hy]; rfl)) ?_
      w_fin
      refine st_ixT (s28.seqT (g02.seqT h5)) hat ?_
      refine ar.fin (by rw [List.length_take, List.length_map, cb.len]; omega) fun H' a2 => ?_
      have e : (bo.map (atN bs))[j]? = some z := by
        rw [List.getElem?_map, hy]
        simp only [Option.map_some]
        unfold atN
        rw [hz]
        rfl
      rw [take_more e]
      exact a2
    intro H8 ar2
    rw [List.take_of_length_le (by rw [List.length_map, cb.len]; omega)] at ar2
    have eq8 := ar2.ex
    w_fin
    intro bt H9 _ s9 hbt _
    w_fin
    intro p H10 _ s10 hp
    have s2e : Same H2 H10 := s27.trans (ar2.same.trans (s9.trans s10))
    have s7e : Same H7 H10 := ar2.same.trans (s9.trans s10)
    have hl := hlac.imp fun _ _ z => z.stay (((ar.same.trans s6).trans s7).trans s7e).tups
    have inw : ∀ z ∈ wo.map (atN ws), z ∈ ws := fun z hz => by
      obtain ⟨y, hy, rfl⟩ := List.mem_map.mp hz
      have r := cw.mem.mp hy
      obtain ⟨z, hz, _, _⟩ := at_int (ns := ws) r.1 (by rw [N.wl]; exact r.2)
      unfold atN
      rw [hz]
      exact List.mem_of_getElem? hz
    have inb : ∀ z ∈ bo.map (atN bs), z ∈ bs := fun z hz => by
      obtain ⟨y, hy, rfl⟩ := List.mem_map.mp hz
      have r := cb.mem.mp hy
      obtain ⟨z, hz, _, _⟩ := at_int (ns := bs) r.1 (by rw [N.bl]; exact r.2)
      unfold atN
      rw [hz]
      exact List.mem_of_getElem? hz
    refine k p H10 m2 (cols.map (mixCol wo bo)) (wo.map (atN ws)) (bo.map (atN bs)) (hh2.same s2e) (g02.trans s2e.go) ⟨tl, wt, bt, lac, SqT.of hp, s7e.seqT htl, hl.imp fun _ _ z => z.1, (s7.trans s7e).seqT hwt, s10.seqT hbt, hl⟩
      ⟨n1, few, fun c hc => ?_, by rw [List.length_map]; exact D4, by rw [List.length_map, cw.len], by rw [List.length_map, cb.len], fun z hz => N.wr z (inw z hz), fun z hz => N.br z (inb z hz)⟩ (by rw [List.length_map]) inw inb
    obtain ⟨c0, hc0, rfl⟩ := List.mem_map.mp hc
    exact mix_col cw cb (N.col c0 hc0)
def spCopies (K : PySem.W.Frag) : Sp := fun vs H Q _ => ∃ (h d : Addr) (ds : List Int) (i D : Nat) (pw pb mo : Int), vs = [.ref h, .int D, .int pw, .int pb, .int mo] ∧ Hand H h d ds i ∧ 1 ≤ D ∧ D ≤ 4 ∧ 1 ≤ pw ∧ pw ≤ 1000 ∧ 1 ≤ pb ∧ pb ≤ 1000 ∧ 1 ≤ mo ∧ mo ≤ 100 ∧
  ∀ (p : Addr) (H' : Hp) (i' n : Nat) (cols : List (List Int)) (ws bs : List Int), Hand H' h d ds i' → Go (· = h) H H' → NetV K H' p n cols ws bs → Net n cols ws bs → (n : Int) ≤ 3 * mo → cols.length = D → (∀ z ∈ ws, 0 ≤ z ∧ z < pw) → (∀ z ∈ bs, 0 ≤ z ∧ z < pb) → Q (.ref p) H'
theorem covIn_mem {n m : Nat} {ws : List Int} {lo : Int} (m1 : 1 ≤ m) (l : ws.length = n) (h : ∀ z ∈ ws, 0 ≤ z ∧ z < lo) : ∀ z ∈ covIn n m ws, 0 ≤ z ∧ z < lo := fun z hz => by
  obtain ⟨k, hk, rfl⟩ := List.mem_map.mp hz
  have r := mem_rgn.mp hk
  have q0 : 0 ≤ k / (m : Int) := Int.ediv_nonneg r.1 (by omega)
  have q1 : k / (m : Int) < n := Int.ediv_lt_of_lt_mul (by omega) (by rw [← Int.natCast_mul]; exact r.2)
  obtain ⟨z, hz, _, _⟩ := at_int (ns := ws) q0 (by rw [l]; exact q1)
  unfold atN
  rw [hz]
  exact h z (List.mem_of_getElem? hz)
set_option maxHeartbeats 1000000 in
theorem ok_copies {f : Addr} {fd : FuncData} (B : Blt mg) (g_law_take : Has P w K mg base CX0 1 "_law_take" ["hand", "many"] (spTakeN K)) (g_law_network : Has P w K mg base CX0 3 "_law_network" ["hand", "colours", "many", "p", "q"] (spNet5 K)) (g_law_turns : Has P w K mg base CX0 3 "_law_turns" ["hand", "network", "copies"] (spTurns K))
    (g_law_cover : Has P w K mg base CX0 1 "_law_cover" ["network", "turns"] (spCover K)) (g_law_mixed_up : Has P w K mg base CX0 3 "_law_mixed_up" ["hand", "network"] (spMixed K)) (F : Fun K "_law_copies" "_law_copies" s_law_copies f fd) : FnOk P w K mg base CX0 4 f fd ["hand", "colours", "p", "q", "most"] (spCopies K) := by
  have sc : FnScope ["hand", "colours", "p", "q", "most", "network", "copies"] ["hand", "colours", "p", "q", "most"] (defScope s_law_copies) := ⟨rfl, rfl, rfl, by decide +kernel, rfl, by decide +kernel, by decide +kernel⟩
  refine F.ok sc (fun vs H Q E h => ?_) (fun cdv A outer s H vs Q E hr h => ?_)
  · obtain ⟨_, _, _, _, _, _, _, _, rfl, _⟩ := h
    rfl
  obtain ⟨h, d, ds, i0, D, pw, pb, mo, rfl, hh, D1, D4, pw1, pw2, pb1, pb2, mo1, mo2, k⟩ := h
  refine ⟨_, (pss_cons (ps_set (i := 5) sc.nd rfl (Or.inl rfl) (pc g_law_network hr (pa_cons (pv 0) (pa_cons (pv 1) (pa_cons (pe_op op_add pe_int (pc g_law_take hr (pa_cons (pv 0) (pa_cons pe_int pa_nil)))) (pa_cons (pv 2) (pa_cons (pv 3) pa_nil)))))))
    (pss_cons (ps_set (i := 6) sc.nd rfl (Or.inl rfl) (pe_op op_add pe_int (pc g_law_take hr (pa_cons (pv 0) (pa_cons (pv 4) pa_nil)))))
    (pss_one (ps_ret (pc g_law_mixed_up hr (pa_cons (pv 0) (pa_cons (pc g_law_cover hr (pa_cons (pv 5) (pa_cons (pc g_law_turns hr (pa_cons (pv 0) (pa_cons (pv 5) (pa_cons (pv 6) pa_nil)))) pa_nil))) pa_nil))))))), ?_⟩
  try dsimp only [cxOf]
  w_fin
  refine ⟨h, d, ds, i0, 3, rfl, hh, by omega, by omega, fun n0 H1 n00 n01 hh1 g1 => ?_⟩
  obtain ⟨n, hn⟩ : ∃ n : Nat, 1 + n0 = n := ⟨(1 + n0).toNat, by omega⟩
  w_fin
  rw [hn]
  refine ⟨h, d, ds, _, D, n, pw, pb, rfl, hh1, D4, by omega, by omega, pw1, pw2, pb1, pb2, fun np H2 m2 cols ws bs hh2 g2 hV N lenD rw4 rb4 => ?_⟩
  w_fin
  refine ⟨h, d, ds, m2, mo, rfl, hh2, by omega, by omega, fun c0 H3 c00 c01 hh3 g3 => ?_⟩
  obtain ⟨m, hm⟩ : ∃ m : Nat, 1 + c0 = m := ⟨(1 + c0).toNat, by omega⟩
  w_fin
  rw [hm]
  have hV3 := hV.stay g3.tups
  refine ⟨h, d, np, ds, _, m, n, cols, ws, bs, rfl, hh3, hV3, N, by omega, by omega, fun tp H4 m4 xs tt hh4 g4 htp R U => ?_⟩
  have nm3 : n * m ≤ 3 * m := Nat.mul_le_mul_right m (by omega)
  w_fin
  refine ⟨np, tp, n, m, cols, ws, bs, xs, tt, rfl, hV3.stay g4.tups, N, by omega, htp, R, U, by omega, by omega, fun cp H5 s5 hC => ?_⟩
  w_fin
  refine ⟨h, d, cp, ds, m4, n * m, _, _, _, rfl, hh4.same s5, hC, cov_net N U (by omega) (by omega), fun p H6 m6 cols' ws' bs' hh6 g6 hV6 N6 l6 w6 b6 => ?_⟩
  refine k p H6 m6 (n * m) cols' ws' bs' hh6 ((((g1.trans g2).trans g3).trans g4).trans (s5.go.trans g6)) hV6 N6 (by omega) ?_ (fun z hz => covIn_mem (by omega) N.wl rw4 z (w6 z hz)) (fun z hz => covIn_mem (by omega) N.bl rb4 z (b6 z hz))
  rw [l6, List.length_map, List.length_zip, U.len]
  omega
end
theorem go_more {M M' : Addr → Prop} {H H' : Hp} (g : Go M H H') (h : ∀ b, M b → M' b) : Go M' H H' := ⟨fun b o n e => g.out b o (fun z => n (h b z)) e, g.tups⟩
section
variable {P : Program} {w : World} {K : PySem.W.Frag} {mg : Str → Option Value} {base : Heap}
/-- what is no network -/
def Bad (d : PyData) : Prop := isNetD 4 4 d = false ∧ WordOk d
theorem wordok_str {s : Str} {r : List PyData} (z : SeqAt.shaped (.str s) = true) : WordOk (.tuple (.str s :: r)) := fun w r e _ => by cases e; exact z
theorem bad_of {s : Str} {r : List PyData} (h : isNetD 4 4 (.tuple (.str s :: r)) = false) (z : SeqAt.shaped (.str s) = true := by decide +kernel) : Bad (.tuple (.str s :: r)) := ⟨h, wordok_str z⟩
theorem bad5 {dn dl dw db : PyData} (h : isNum dn 1 400 = false ∨ isRest 4 4 (numD dn) dw db dl = false) : Bad (.tuple [.str "network", dn, dl, dw, db]) := bad_of (by
  have e : isNetD 4 4 (.tuple [.str "network", dn, dl, dw, db]) = (isNum dn 1 400 && isRest 4 4 (numD dn) dw db dl) := by
    show (isNetWord (.str "network") && (isNum dn 1 400 && isRest 4 4 (numD dn) dw db dl)) = _
    rw [show isNetWord (.str "network") = true from rfl, Bool.true_and]
  rw [e]
  rcases h with h | h
  · rw [h, Bool.false_and]
  · rw [h, Bool.and_false])
theorem rest_w {n : Int} {dw db dl : PyData} (h : areNums n 3 dw = false) : isRest 4 4 n dw db dl = false := by
  cases dl with
  | tuple cs =>
    show (isNum (.int (cs.length : Nat)) 2 4 && (cs.all (isOrd n) && (areNums n 3 dw && areNums n 3 db))) = false
    rw [h, Bool.false_and, Bool.and_false, Bool.and_false]
  | _ => rfl
theorem rest_b {n : Int} {dw db dl : PyData} (h : areNums n 3 db = false) : isRest 4 4 n dw db dl = false := by
  cases dl with
  | tuple cs =>
    show (isNum (.int (cs.length : Nat)) 2 4 && (cs.all (isOrd n) && (areNums n 3 dw && areNums n 3 db))) = false
    rw [h, Bool.and_false, Bool.and_false, Bool.and_false]
  | _ => rfl
theorem rest_len {n : Int} {dw db : PyData} {cs : List PyData} (h : cs.length < 2 ∨ 4 < cs.length) : isRest 4 4 n dw db (.tuple cs) = false := by
  show (isNum (.int (cs.length : Nat)) 2 4 && (cs.all (isOrd n) && (areNums n 3 dw && areNums n 3 db))) = false
  have : isNum (.int (cs.length : Nat)) 2 4 = false := by
    show (decide ((2 : Int) ≤ (cs.length : Nat)) && decide (((cs.length : Nat) : Int) ≤ 4)) = false
    rcases h with h | h
    · rw [decide_eq_false (by omega), Bool.false_and]
    · rw [decide_eq_false (p := ((cs.length : Nat) : Int) ≤ 4) (by omega), Bool.and_false]
  rw [this, Bool.false_and]
theorem rest_col {n : Int} {dw db c : PyData} {cs : List PyData} (h : isOrd n c = false) : isRest 4 4 n dw db (.tuple (c :: cs)) = false := by
  show (isNum (.int ((c :: cs).length : Nat)) 2 4 && ((isOrd n c && cs.all (isOrd n)) && (areNums n 3 dw && areNums n 3 db))) = false
  rw [h, Bool.false_and, Bool.false_and, Bool.and_false]
theorem nums_len {n mo : Int} {cs : List PyData} (h : ((cs.length : Nat) : Int) ≠ n) : areNums n mo (.tuple cs) = false := by
  show (decide (((cs.length : Nat) : Int) = n) && cs.all (isNum · 0 mo)) = false
  rw [decide_eq_false h, Bool.false_and]
theorem nums_hd {n mo : Int} {c : PyData} {cs : List PyData} (h : isNum c 0 mo = false) : areNums n mo (.tuple (c :: cs)) = false := by
  show (decide ((((c :: cs).length : Nat) : Int) = n) && (isNum c 0 mo && cs.all (isNum · 0 mo))) = false
  rw [h, Bool.false_and, Bool.and_false]
theorem ord_nums {n : Int} {d : PyData} (h : areNums n (n - 1) d = false) : isOrd n d = false := by
  unfold isOrd
  rw [h, Bool.false_and]
theorem twice_bad {n : Nat} {x : Int} (n1 : 1 ≤ n) : isOrd n (tupI (List.replicate n x ++ List.replicate (if decide ((n : Int) = 1) = true then 1 else 0) 0)) = false := by
  by_cases h : n = 1
  · subst h
    refine ord_nums (nums_len ?_)
    simp
  · have e : (if decide ((n : Int) = 1) = true then 1 else 0 : Nat) = 0 := if_neg (by simp; omega)
    rw [e, List.replicate_zero, List.append_nil]
    obtain ⟨k, rfl⟩ : ∃ k, n = k + 2 := ⟨n - 2, by omega⟩
    unfold isOrd
    rw [Bool.and_eq_false_iff]
    refine .inr (decide_eq_false fun z => ?_)
    have : intsD (tupI (List.replicate (k + 2) x)) = x :: x :: (List.replicate k x) := by
      show (List.map PyData.int (List.replicate (k + 2) x)).map numD = _
      rw [List.map_map]
      simp [List.replicate_succ, numD]
    rw [this] at z
    simp at z
/-- the wrong ones so far -/
structure Wr (K : PySem.W.Frag) (H0 : Hp) (h d : Addr) (ds : List Int) (i : Nat) (l : Addr) (k : Nat) (H : Hp) : Prop where
  free : H0 l = none
  same : Same H0 H
  ex : ∃ xs es, H l = some (.lst xs) ∧ DnAll (fun b => b = h ∨ b = l) K H xs es ∧ xs.length = k ∧ ∀ e ∈ es, Bad e
  hand : Hand H h d ds i
theorem Wr.step {K : PySem.W.Frag} {H0 H H' : Hp} {h d : Addr} {ds : List Int} {i : Nat} {l : Addr} {k : Nat} (a : Wr K H0 h d ds i l k H) (s : Same H H') : Wr K H0 h d ds i l k H' := by
  obtain ⟨xs, es, e, da, le, b⟩ := a.ex
  exact ⟨a.free, a.same.trans s, ⟨xs, es, s _ _ e, da.stay s.go, le, b⟩, a.hand.same s⟩
theorem Wr.push {K : PySem.W.Frag} {H0 H : Hp} {h d : Addr} {ds : List Int} {i : Nat} {l : Addr} {k : Nat} {v : V} {r : PyData} (a : Wr K H0 h d ds i l k H) (hv : Dn (fun b => b = h ∨ b = l) K H v r) (hb : Bad r) (few : k ≤ 1000) (nl : l ≠ h ∧ l ≠ d) :
    ∃ xs, H l = some (.lst xs) ∧ xs.length < sizeLine ∧ Wr K H0 h d ds i l (k + 1) (upd H l (.lst (xs ++ [v]))) ∧ Go (· = l) H (upd H l (.lst (xs ++ [v]))) := by
  obtain ⟨xs, es, e, da, le, b⟩ := a.ex
  have g : Go (fun b => b = h ∨ b = l) H (upd H l (.lst (xs ++ [v]))) := Go.put (.inr rfl) e
  refine ⟨xs, e, lt_small (by omega), ⟨a.free, same_own a.same a.free _, ⟨_, _, upd_same, (da.stay g).app (.cons (hv.stay g) .nil), by rw [List.length_append, le]; rfl, fun x hx => ?_⟩, a.hand.off nl.1 nl.2 _⟩, Go.put rfl e⟩
  rcases List.mem_append.mp hx with q | q
  · exact b x q
  · rw [List.mem_singleton.mp q]
    exact hb
def spWrongNet (K : PySem.W.Frag) : Sp := fun vs H Q _ => ∃ (h d a : Addr) (ds : List Int) (i n : Nat) (cols : List (List Int)) (ws bs : List Int), vs = [.ref h, .ref a] ∧ Hand H h d ds i ∧ NetV K H a n cols ws bs ∧ Net n cols ws bs ∧ 2 ≤ cols.length ∧
  ∀ (M : Addr → Prop) (v : V) (e : PyData) (H' : Hp), M h → Hand H' h d ds (i + 1) → Go (· = h) H H' → Dn M K H' v e → Bad e → Q v H'
set_option maxHeartbeats 2000000 in
theorem ok_wrongnet {f : Addr} {fd : FuncData} (B : Blt mg) (g_law_take : Has P w K mg base CX0 1 "_law_take" ["hand", "many"] (spTakeN K)) (F : Fun K "_law_wrong_network" "_law_wrong_network" s_law_wrong_network f fd) : FnOk P w K mg base CX0 2 f fd ["hand", "network"] (spWrongNet K) := by
  have sc : FnScope ["hand", "network", "twice", "wrong", "number", "other", "first", "strange", "inputs", "word", "many", "links", "white", "black"] ["hand", "network"] (defScope s_law_wrong_network) := ⟨rfl, rfl, rfl, by decide +kernel, rfl, by decide +kernel, by decide +kernel⟩
  refine F.ok sc (fun vs H Q E h => ?_) (fun cdv A outer s H vs Q E hr h => ?_)
  · obtain ⟨_, _, _, _, _, _, _, _, _, rfl, _⟩ := h
    rfl
  obtain ⟨h, d, a, ds, i0, n, cols, ws, bs, rfl, hh, hV, N, D2, k⟩ := h
  refine ⟨_, (pss_cons (ps_asg (pv 1) (pg_tup rfl (pgs_cons (pg_name (i := 9) sc.nd rfl (Or.inl rfl)) (pgs_cons (pg_name (i := 10) sc.nd rfl (Or.inl rfl)) (pgs_cons (pg_name (i := 11) sc.nd rfl (Or.inl rfl)) (pgs_cons (pg_name (i := 12) sc.nd rfl (Or.inl rfl)) (pgs_cons (pg_name (i := 13) sc.nd rfl (Or.inl rfl)) pgs_nil)))))))
    (pss_cons (ps_set (i := 2) sc.nd rfl (Or.inl rfl) (pe_op op_plus (pe_op (show OpR _ _ (rRepA K) from op_repA) (pe_tupN (pa_cons (pe_ix ix_tup (pe_ix ix_tup (pv 11) pe_int (fun _ _ => rfl)) pe_int (fun _ _ => rfl)) pa_nil)) (pv 10)) (pe_op (show OpR _ _ (rRepA K) from op_repA) (pe_tupN (pa_cons pe_int pa_nil)) (pe_callTy call_int1 (by rfl) B.int (by decide +kernel) (pa_cons (pe_cmpR op_eqi (pv 10) pe_int (nomark _)) pa_nil)))))
    (pss_cons (ps_set (i := 3) sc.nd rfl (Or.inl rfl) (pe_lstN (pa_cons (pe_callTy (show CallR _ _ (rListN K) from call_listN) (by rfl) B.list (by decide +kernel) (pa_cons (pv 1) pa_nil)) (pa_cons (pe_slice (show SlR _ (LG.rCut K) from sl_cut) (pv 1) po_none (po_some pe_int)) (pa_cons (pe_op op_plus (pv 1) (pe_tupN (pa_cons pe_int pa_nil))) (pa_cons (pe_op op_plus (pe_tupN (pa_cons pe_str pa_nil)) (pe_slice (show SlR _ (LG.rCut K) from sl_cut) (pv 1) (po_some pe_int) po_none)) (pa_cons pe_non (pa_cons pe_int (pa_cons pe_str (pa_cons (pe_tupN pa_nil) pa_nil))))))))))
    (pss_cons (ps_for PassesOwn.never rfl (pi_tup (pe_tupN (pa_cons (pe_op op_add (pv 10) pe_int) (pa_cons pe_int (pa_cons pe_int (pa_cons pe_bl (pa_cons pe_non pa_nil))))))) (pg_name (i := 4) sc.nd rfl (Or.inl rfl))
      (pss_one (ps_expr (pe_bm PySem.F.plainAttrs_list PySem.F.slot_list_append PySem.F.type_list_append mt_append (pv 3) (pa_cons (pe_tupN (pa_cons (pv 9) (pa_cons (pv 4) (pa_cons (pv 11) (pa_cons (pv 12) (pa_cons (pv 13) pa_nil)))))) pa_nil)))))
    (pss_cons (ps_for PassesOwn.never rfl (pi_tup (pe_tupN (pa_cons (pe_slice (show SlR _ (LG.rCut K) from sl_cut) (pv 11) po_none (po_some pe_int)) (pa_cons (pe_op (show OpR _ _ (rRepA K) from op_repA) (pv 11) pe_int) (pa_cons (pe_callTy (show CallR _ _ (rListN K) from call_listN) (by rfl) B.list (by decide +kernel) (pa_cons (pv 11) pa_nil)) (pa_cons (pe_op op_plus (pe_tupN (pa_cons (pe_callTy (show CallR _ _ (rListN K) from call_listN) (by rfl) B.list (by decide +kernel) (pa_cons (pe_ix ix_tup (pv 11) pe_int (fun _ _ => rfl)) pa_nil)) pa_nil)) (pe_slice (show SlR _ (LG.rCut K) from sl_cut) (pv 11) (po_some pe_int) po_none)) (pa_cons (pe_op op_plus (pe_tupN (pa_cons (pv 2) pa_nil)) (pe_slice (show SlR _ (LG.rCut K) from sl_cut) (pv 11) (po_some pe_int) po_none)) pa_nil))))))) (pg_name (i := 5) sc.nd rfl (Or.inl rfl))
      (pss_one (ps_expr (pe_bm PySem.F.plainAttrs_list PySem.F.slot_list_append PySem.F.type_list_append mt_append (pv 3) (pa_cons (pe_tupN (pa_cons (pv 9) (pa_cons (pv 10) (pa_cons (pv 5) (pa_cons (pv 12) (pa_cons (pv 13) pa_nil)))))) pa_nil)))))
    (pss_cons (ps_for PassesOwn.never rfl (pi_tup (pe_tupN (pa_cons (pe_tupN (pa_cons (pv 10) pa_nil)) (pa_cons (pe_tupN (pa_cons (pe_un un_neg pe_int) pa_nil)) (pa_cons (pe_tupN (pa_cons pe_non pa_nil)) pa_nil))))) (pg_name (i := 6) sc.nd rfl (Or.inl rfl))
      (pss_one (ps_expr (pe_bm PySem.F.plainAttrs_list PySem.F.slot_list_append PySem.F.type_list_append mt_append (pv 3) (pa_cons (pe_tupN (pa_cons (pv 9) (pa_cons (pv 10) (pa_cons (pe_op op_plus (pe_tupN (pa_cons (pe_op op_plus (pv 6) (pe_slice (show SlR _ (LG.rCut K) from sl_cut) (pe_ix ix_tup (pv 11) pe_int (fun _ _ => rfl)) (po_some pe_int) po_none)) pa_nil)) (pe_slice (show SlR _ (LG.rCut K) from sl_cut) (pv 11) (po_some pe_int) po_none)) (pa_cons (pv 12) (pa_cons (pv 13) pa_nil)))))) pa_nil)))))
    (pss_cons (ps_set (i := 7) sc.nd rfl (Or.inl rfl) (pe_lstN (pa_cons (pe_callTy (show CallR _ _ (rListN K) from call_listN) (by rfl) B.list (by decide +kernel) (pa_cons (pv 12) pa_nil)) (pa_cons (pe_op op_plus (pv 12) (pe_tupN (pa_cons pe_int pa_nil))) (pa_cons (pe_slice (show SlR _ (LG.rCut K) from sl_cut) (pv 12) (po_some pe_int) po_none) (pa_cons pe_non pa_nil))))))
    (pss_cons (ps_for PassesOwn.never rfl (pi_list (pe_op (show OpR _ _ rCatN from op_catN) (pv 7) (pe_lstN (pa_cons (pe_op op_plus (pe_tupN (pa_cons pe_int pa_nil)) (pe_slice (show SlR _ (LG.rCut K) from sl_cut) (pv 12) (po_some pe_int) po_none)) (pa_cons (pe_op op_plus (pe_tupN (pa_cons (pe_un un_neg pe_int) pa_nil)) (pe_slice (show SlR _ (LG.rCut K) from sl_cut) (pv 12) (po_some pe_int) po_none)) (pa_cons (pe_op op_plus (pe_tupN (pa_cons pe_bl pa_nil)) (pe_slice (show SlR _ (LG.rCut K) from sl_cut) (pv 12) (po_some pe_int) po_none)) pa_nil)))))) (pg_name (i := 8) sc.nd rfl (Or.inl rfl))
      (pss_cons (ps_expr (pe_bm PySem.F.plainAttrs_list PySem.F.slot_list_append PySem.F.type_list_append mt_append (pv 3) (pa_cons (pe_tupN (pa_cons (pv 9) (pa_cons (pv 10) (pa_cons (pv 11) (pa_cons (pv 8) (pa_cons (pv 13) pa_nil)))))) pa_nil)))
      (pss_one (ps_expr (pe_bm PySem.F.plainAttrs_list PySem.F.slot_list_append PySem.F.type_list_append mt_append (pv 3) (pa_cons (pe_tupN (pa_cons (pv 9) (pa_cons (pv 10) (pa_cons (pv 11) (pa_cons (pv 12) (pa_cons (pv 8) pa_nil)))))) pa_nil))))))
    (pss_one (ps_ret (pe_ix ix_list (pv 3) (pc g_law_take hr (pa_cons (pv 0) (pa_cons (pe_callB call_len_seq (by rfl) B.len (by decide +kernel) (pa_cons (pv 3) pa_nil)) pa_nil))) (fun _ _ => rfl)))))))))))), ?_⟩
  try dsimp only [cxOf]
  have D4 := N.D4
  have few := N.few
  have n1 := N.pos
  obtain ⟨la, wa, ba, cs, h1, h2, h3, h4, h5, h6⟩ := id hV
  w_fin
  refine st_gtup h1 rfl ?_
  w_fin
  obtain ⟨c0, hc0⟩ : ∃ c, cols[0]? = some c := ⟨_, List.getElem?_eq_getElem (by omega)⟩
  have C0 := N.col c0 (List.mem_of_getElem? hc0)
  obtain ⟨ca, hca, hcaS⟩ := h3.at hc0
  obtain ⟨x0, hx0, _, _⟩ := C0.at (i := 0) (Int.le_refl 0) (by omega)
  refine st_ixT h2 (at_of (j := 0) rfl hca) ?_
  w_fin
  refine st_ixT hcaS (at_of (j := 0) (v := .int x0) rfl (by rw [List.getElem?_map]; exact congrArg (Option.map V.int) hx0)) ?_
  w_fin
  intro t1 H1 _ s1 e1
  w_fin
  refine st_rRepA (SqT.of e1) (by simp) (by omega) (by omega) (by simp) fun t2 H2 s2 e2 => ?_
  w_fin
  intro t3 H3 _ s3 e3
  w_fin
  refine st_rRepA (SqT.of e3) (by simp) (by split <;> decide) (by split <;> decide) (by simp) fun t4 H4 s4 e4 => ?_
  refine st_rPlus (s4.seqT (s3.seqT e2)) e4 (by
    rw [PyProof.Rows.lm_len_rep_flat, PyProof.Rows.lm_len_rep_flat]
    have : (if decide ((n : Int) = 1) = true then (1 : Int) else 0).toNat ≤ 1 := by split <;> decide
    simp
    omega) fun t5 H5 s5 e5 => ?_
  have s05 : Same H H5 := (((s1.trans s2).trans s3).trans s4).trans s5
  have h15 := s05.seqT h1
  have e5 : SqT K H5 t5 ((List.replicate n x0 ++ List.replicate (if decide ((n : Int) = 1) = true then 1 else 0) 0).map V.int) := by
    have e : (List.replicate ((n : Int)).toNat [V.int x0]).flatten ++ (List.replicate (if decide ((n : Int) = 1) = true then (1 : Int) else 0).toNat [V.int 0]).flatten = (List.replicate n x0 ++ List.replicate (if decide ((n : Int) = 1) = true then 1 else 0) 0).map V.int := by
      rw [List.map_append, List.map_replicate, List.map_replicate, List.flatten_replicate_singleton, List.flatten_replicate_singleton, show ((n : Int)).toNat = n by omega]
      congr 2
      split <;> rfl
    rw [← e]
    exact e5
  w_fin
  intro l6 H6 f6 s6 e6
  have h16 := s6.seqT h15
  w_fin
  intro p7 H7 s7 e7
  rw [show (4 : Int) = ((4 : Nat) : Int) from rfl, cut_to] at e7
  have h17 := s7.seqT h16
  w_fin
  intro t8 H8 _ s8 e8
  refine st_rPlus (s8.seqT h17) (SqT.of e8) (by simp) fun p9 H9 s9 e9 => ?_
  w_fin
  intro t10 H10 _ s10 e10
  have h110 := s10.seqT (s9.seqT (s8.seqT h17))
  w_fin
  intro p11 H11 s11 e11
  rw [show (1 : Int) = ((1 : Nat) : Int) from rfl, cut_from] at e11
  refine st_rPlus (s11.seqT (SqT.of e10)) e11 (by simp) fun p12 H12 s12 e12 => ?_
  w_fin
  intro p13 H13 _ s13 e13
  w_fin
  intro wl H14 f14 s14 e14
  obtain ⟨nl6, nd6⟩ := hand_out (hh.same s05) f6
  have s613 : Same H6 H13 := ((((((s7.trans s8).trans s9).trans s10).trans s11).trans s12).trans s13)
  have s013 : Same H H13 := (s05.trans s6).trans s613
  have hh13 := hh.same s013
  obtain ⟨nwh, nwd⟩ := hand_out hh13 f14
  have n6w : l6 ≠ wl := ne_of_none (s613 _ _ e6) f14
  have nAll : ∀ {M : Addr → Prop} {H' : Hp}, Same H H' → DnAll M K H' [.str "network", .int n, .ref la, .ref wa, .ref ba] [.str "network", .int n, .tuple (cols.map tupI), tupI ws, tupI bs] := fun s =>
    .cons (.str _) (.cons (.int _) (.cons (Dt.dn (.tup (s.seqT h2) (sls_dt (h3.imp fun _ _ z => s.seqT z)))) (.cons (Dt.dn (.tup (s.seqT h4) (DtAll.ints _))) (.cons (Dt.dn (.tup (s.seqT h5) (DtAll.ints _))) .nil))))
  have W0 : Wr K H13 h d ds i0 wl 8 H14 := by
    refine ⟨f14, s14, ⟨_, [.list [.str "network", .int n, .tuple (cols.map tupI), tupI ws, tupI bs], .tuple ([.str "network", .int n, .tuple (cols.map tupI), tupI ws, tupI bs].take 4), .tuple ([.str "network", .int n, .tuple (cols.map tupI), tupI ws, tupI bs] ++ [.int 0]), .tuple ([.str "Network"] ++ [.str "network", .int n, .tuple (cols.map tupI), tupI ws, tupI bs].drop 1), .none, .int 5, .str "network", .tuple []], e14, ?_, rfl, ?_⟩, hh13.same s14⟩
    · have s614 := s613.trans s14
      refine .cons (.lst (by rintro (z | z); exact nl6 z; exact n6w z) (s614 _ _ e6) (nAll (s013.trans s14))) (.cons (.tup ((((((((s8.trans s9).trans s10).trans s11).trans s12).trans s13).trans s14)).seqT e7) ((nAll (s013.trans s14)).take 4)) (.cons (.tup (((((s10.trans s11).trans s12).trans s13).trans s14).seqT e9) ((nAll (s013.trans s14)).app (.cons (.int _) .nil)))
        (.cons (.tup ((s13.trans s14).seqT e12) (DnAll.app (.cons (.str _) .nil) ((nAll (s013.trans s14)).drop 1))) (.cons .non (.cons (.int _) (.cons (.str _) (.cons (.tup (s14.seqT (SqT.of e13)) .nil) .nil)))))))
    · intro e he
      simp only [List.mem_cons, List.not_mem_nil, or_false] at he
      rcases he with rfl | rfl | rfl | rfl | rfl | rfl | rfl | rfl
      · exact ⟨rfl, nofun⟩
      · exact bad_of rfl
      · exact bad_of rfl
      · refine bad_of ?_
        rfl
      · exact ⟨rfl, nofun⟩
      · exact ⟨rfl, nofun⟩
      · exact ⟨rfl, nofun⟩
      · exact ⟨rfl, fun w r e _ => by cases e⟩
  w_fin
  intro q15 H15 _ s15 e15
  refine ⟨q15, rfl, ⟨_, SqT.of e15⟩, ?_⟩
  refine fr_tup (xs := [.int (n + 1), .int 0, .int 401, .bl true, .non]) (fun i σ H' => ∃ (nv : Option V), σ = [some (.ref h), some (.ref a), some (.ref t5), some (.ref wl), nv, none, none, none, none, some (.str "network"), some (.int n), some (.ref la), some (.ref wa), some (.ref ba)] ∧ Wr K H13 h d ds i0 wl (8 + i) H' ∧ Go (· = wl) H15 H')
    ⟨none, rfl, W0.step s15, Go.refl _⟩ (fun i σ H' _ z => by
      obtain ⟨_, _, _, g⟩ := z
      exact g.seqT (SqT.of e15)) ?_ ?_
  · rintro i x σ H16 hi ⟨nv, rfl, acc, g16⟩
    obtain ⟨xs, es, ew, _⟩ := acc.ex
    have s016 := s013.trans acc.same
    have h116 := s016.seqT h1
    have all : DnAll (fun b => b = h ∨ b = wl) K H16 [.int (n + 1), .int 0, .int 401, .bl true, .non] [.int (n + 1), .int 0, .int 401, .bool true, .none] := .cons (.int _) (.cons (.int _) (.cons (.int _) (.cons (.bl _) (.cons .non .nil))))
    obtain ⟨e, he, hx⟩ := all.of hi
    have il : i < 5 := (List.getElem?_eq_some_iff.mp hi).1
    w_fin
    intro p H17 _ s17 ep
    w_fin
    cases (nAll (M := fun b => b = h ∨ b = wl) (s016.trans s17)) with | cons _ r =>
    cases r with | cons _ r =>
    have bad : Bad (.tuple [.str "network", e, .tuple (cols.map tupI), tupI ws, tupI bs]) := by
      refine bad5 ?_
      match i, he with
      | 0, he => cases he; exact .inr (rest_w (nums_len (by rw [List.length_map, N.wl]; show (n : Int) ≠ (n : Int) + 1; omega)))
      | 1, he => cases he; exact .inl rfl
      | 2, he => cases he; exact .inl rfl
      | 3, he => cases he; exact .inl rfl
      | 4, he => cases he; exact .inl rfl
    obtain ⟨xs2, ew2, few2, a2, g2⟩ := (acc.step s17).push (.tup (SqT.of ep) (.cons (.str _) (.cons (hx.stay s17.go) r))) bad (by omega) ⟨nwh, nwd⟩
    refine st_app ew2 few2 ?_
    exact ⟨_, rfl, a2, (g16.trans s17.go).trans g2⟩
  rintro σ H16 ⟨nv, rfl, acc, _⟩
  have s016 := s013.trans acc.same
  have h216 := s016.seqT h2
  w_fin
  intro p20 H20 s20 e20
  rw [show (1 : Int) = ((1 : Nat) : Int) from rfl, cut_to] at e20
  w_fin
  have lcs : cs.length = cols.length := h3.len
  refine st_rRepA (s20.seqT h216) (by intro z; rw [z] at lcs; simp at lcs; omega) (by omega) (by omega) (by omega) fun p21 H21 s21 e21 => ?_
  have h221 := s21.seqT (s20.seqT h216)
  w_fin
  intro l22 H22 f22 s22 e22
  have h222 := s22.seqT h221
  have hca22 := (((s016.trans s20).trans s21).trans s22).seqT hcaS
  w_fin
  refine st_ixT h222 (at_of (j := 0) rfl hca) ?_
  w_fin
  intro l23 H23 f23 s23 e23
  w_fin
  intro t24 H24 _ s24 e24
  have h224 := s24.seqT (s23.seqT h222)
  w_fin
  intro p25 H25 s25 e25
  rw [show (1 : Int) = ((1 : Nat) : Int) from rfl, cut_from] at e25
  refine st_rPlus (s25.seqT (SqT.of e24)) e25 (by simp; omega) fun p26 H26 s26 e26 => ?_
  w_fin
  intro t27 H27 _ s27 e27
  have h227 := (((s25.trans s26).trans s27)).seqT h224
  w_fin
  intro p28 H28 s28 e28
  rw [show (1 : Int) = ((1 : Nat) : Int) from rfl, cut_from] at e28
  refine st_rPlus (s28.seqT (SqT.of e27)) e28 (by simp; omega) fun p29 H29 s29 e29 => ?_
  w_fin
  intro q30 H30 _ s30 e30
  refine ⟨q30, rfl, ⟨_, SqT.of e30⟩, ?_⟩
  have s2030 : Same H20 H30 := (((((((((s21.trans s22).trans s23).trans s24).trans s25).trans s26).trans s27).trans s28).trans s29).trans s30)
  have s1630 : Same H16 H30 := s20.trans s2030
  have s030 := s016.trans s1630
  have acc30 := acc.step s1630
  obtain ⟨nl22, _⟩ := hand_out ((acc.step (s20.trans s21)).hand) f22
  obtain ⟨nl23, _⟩ := hand_out ((acc.step ((s20.trans s21).trans s22)).hand) f23
  obtain ⟨xs0, es0, ew0, _⟩ := acc.ex
  have n22 : wl ≠ l22 := ne_of_none ((s20.trans s21) _ _ ew0) f22
  have n23 : wl ≠ l23 := ne_of_none (((s20.trans s21).trans s22) _ _ ew0) f23
  have s2330 : Same H23 H30 := ((((((s24.trans s25).trans s26).trans s27).trans s28).trans s29).trans s30)
  have lD : DtAll K H cs (cols.map tupI) := sls_dt h3
  have lDs : ∀ {M : Addr → Prop} {H' : Hp}, Same H H' → DnAll M K H' cs (cols.map tupI) := fun s => (lD.stay s.tups).dn
  rw [show (List.replicate ((3 : Int)).toNat cs).flatten = cs ++ (cs ++ (cs ++ [])) from rfl, List.append_nil] at e21
  have allO : DnAll (fun b => b = h ∨ b = wl) K H30 [.ref p20, .ref p21, .ref l22, .ref p26, .ref p29] [.tuple ((cols.map tupI).take 1), .tuple (cols.map tupI ++ (cols.map tupI ++ cols.map tupI)), .list (cols.map tupI), .tuple ([.list (c0.map .int)] ++ (cols.map tupI).drop 1), .tuple ([tupI (List.replicate n x0 ++ List.replicate (if decide ((n : Int) = 1) = true then 1 else 0) 0)] ++ (cols.map tupI).drop 1)] := by
    have sd := lDs (M := fun b => b = h ∨ b = wl) s030
    have s2630 : Same H26 H30 := ((s27.trans s28).trans s29).trans s30
    refine .cons (.tup (s2030.seqT e20) (sd.take 1)) (.cons (.tup ((((((((s22.trans s23).trans s24).trans s25).trans s26).trans s27).trans s28).trans s29).trans s30 |>.seqT e21) (sd.app (sd.app sd))) (.cons (.lst (by rintro (z | z); exact nl22 z; exact n22 z.symm) ((s23.trans s2330) _ _ e22) sd)
      (.cons (.tup (s2630.seqT e26) (DnAll.app (.cons (.lst (by rintro (z | z); exact nl23 z; exact n23 z.symm) (s2330 _ _ e23) (DtAll.ints c0).dn) .nil) (sd.drop 1)))
        (.cons (.tup (s30.seqT e29) (DnAll.app (.cons (Dt.dn (.tup ((s1630.seqT (acc.same.seqT ((s613.seqT (s6.seqT e5))))) ) (DtAll.ints _))) .nil) (sd.drop 1))) .nil))))
  refine fr_tup (xs := [.ref p20, .ref p21, .ref l22, .ref p26, .ref p29]) (fun i σ H' => ∃ (ov : Option V), σ = [some (.ref h), some (.ref a), some (.ref t5), some (.ref wl), nv, ov, none, none, none, some (.str "network"), some (.int n), some (.ref la), some (.ref wa), some (.ref ba)] ∧ Wr K H13 h d ds i0 wl (13 + i) H' ∧ Go (· = wl) H30 H')
    ⟨none, rfl, acc30, Go.refl _⟩ (fun i σ H' _ z => by
      obtain ⟨_, _, _, g⟩ := z
      exact g.seqT (SqT.of e30)) ?_ ?_
  · rintro i x σ H31 hi ⟨ov, rfl, acc, g31⟩
    obtain ⟨xs, es, ew, _⟩ := acc.ex
    have s031 := s013.trans acc.same
    obtain ⟨e, he, hx⟩ := (allO.stay (go_more g31 (M' := fun b => b = h ∨ b = wl) fun b z => .inr z)).of hi
    have il : i < 5 := (List.getElem?_eq_some_iff.mp hi).1
    w_fin
    intro p H32 _ s32 ep
    w_fin
    cases (nAll (M := fun b => b = h ∨ b = wl) (s031.trans s32)) with | cons _ r =>
    cases r with | cons _ r =>
    cases r with | cons _ r =>
    have bad : Bad (.tuple [.str "network", .int n, e, tupI ws, tupI bs]) := by
      refine bad5 (.inr ?_)
      match i, he with
      | 0, he => cases he; exact rest_len (.inl (by rw [List.length_take]; omega))
      | 1, he => cases he; exact rest_len (.inr (by simp; omega))
      | 2, he => cases he; rfl
      | 3, he => cases he; exact rest_col (ord_nums rfl)
      | 4, he => cases he; exact rest_col (twice_bad n1)
    obtain ⟨xs2, ew2, few2, a2, g2⟩ := (acc.step s32).push (.tup (SqT.of ep) (.cons (.str _) (.cons (.int _) (.cons (hx.stay s32.go) r)))) bad (by omega) ⟨nwh, nwd⟩
    refine st_app ew2 few2 ?_
    exact ⟨_, rfl, a2, (g31.trans s32.go).trans g2⟩
  rintro σ H31 ⟨ov, rfl, acc, _⟩
  w_fin
  intro t40 H40 _ s40 e40
  w_fin
  intro t41 H41 _ s41 e41
  w_fin
  intro t42 H42 _ s42 e42
  w_fin
  intro q43 H43 _ s43 e43
  have s3143 := ((s40.trans s41).trans s42).trans s43
  have e40' := (((s41.trans s42).trans s43) _ _ e40)
  have e41' := ((s42.trans s43) _ _ e41)
  have e42' := (s43 _ _ e42)
  refine ⟨q43, rfl, ⟨_, SqT.of e43⟩, ?_⟩
  refine fr_tup (xs := [.ref t40, .ref t41, .ref t42]) (fun i σ H' => ∃ (fv : Option V), σ = [some (.ref h), some (.ref a), some (.ref t5), some (.ref wl), nv, ov, fv, none, none, some (.str "network"), some (.int n), some (.ref la), some (.ref wa), some (.ref ba)] ∧ Wr K H13 h d ds i0 wl (18 + i) H' ∧ Go (· = wl) H43 H')
    ⟨none, rfl, acc.step s3143, Go.refl _⟩ (fun i σ H' _ z => by
      obtain ⟨_, _, _, g⟩ := z
      exact g.seqT (SqT.of e43)) ?_ ?_
  · rintro i x σ H44 hi ⟨fv, rfl, acc, g44⟩
    obtain ⟨xs, es, ew, _⟩ := acc.ex
    have s044 := s013.trans acc.same
    have h244 := s044.seqT h2
    have hca44 := s044.seqT hcaS
    obtain ⟨ft, y, dy, rfl, hft, hdy, hbad⟩ : ∃ (ft : Addr) (y : V) (dy : PyData), x = .ref ft ∧ SqT K H44 ft [y] ∧ (∀ {M : Addr → Prop} {H' : Hp}, Dn M K H' y dy) ∧ isNum dy 0 ((n : Int) - 1) = false := by
      match i, hi with
      | 0, hi =>
        cases hi
        refine ⟨t40, .int n, .int n, rfl, g44.seqT (SqT.of e40'), .int _, ?_⟩
        show (decide ((0 : Int) ≤ n) && decide ((n : Int) ≤ n - 1)) = false
        rw [decide_eq_false (p := (n : Int) ≤ n - 1) (by omega), Bool.and_false]
      | 1, hi => cases hi; exact ⟨t41, .int (-1), .int (-1), rfl, g44.seqT (SqT.of e41'), .int _, rfl⟩
      | 2, hi => cases hi; exact ⟨t42, .non, .none, rfl, g44.seqT (SqT.of e42'), .non, rfl⟩
    have il : i < 3 := (List.getElem?_eq_some_iff.mp hi).1
    w_fin
    refine st_ixT h244 (at_of (j := 0) rfl hca) ?_
    w_fin
    intro p45 H45 s45 e45
    rw [show (1 : Int) = ((1 : Nat) : Int) from rfl, cut_from] at e45
    refine st_rPlus (s45.seqT hft) e45 (by simp; have := C0.len; omega) fun p46 H46 s46 e46 => ?_
    w_fin
    intro t47 H47 _ s47 e47
    have h247 := (((s45.trans s46).trans s47)).seqT h244
    w_fin
    intro p48 H48 s48 e48
    rw [show (1 : Int) = ((1 : Nat) : Int) from rfl, cut_from] at e48
    refine st_rPlus (s48.seqT (SqT.of e47)) e48 (by simp; omega) fun p49 H49 s49 e49 => ?_
    w_fin
    intro p50 H50 _ s50 e50
    w_fin
    have s4450 : Same H44 H50 := ((((s45.trans s46).trans s47).trans s48).trans s49).trans s50
    cases (nAll (M := fun b => b = h ∨ b = wl) (s044.trans s4450)) with | cons _ r =>
    cases r with | cons _ r =>
    cases r with | cons _ r =>
    have bad : Bad (.tuple [.str "network", .int n, .tuple ([.tuple ([dy] ++ (c0.map .int).drop 1)] ++ (cols.map tupI).drop 1), tupI ws, tupI bs]) := bad5 (.inr (rest_col (ord_nums (nums_hd hbad))))
    have hd1 : Dn (fun b => b = h ∨ b = wl) K H50 (.ref p46) (.tuple ([dy] ++ (c0.map .int).drop 1)) := by
      refine .tup ((((s47.trans s48).trans s49).trans s50).seqT e46) (DnAll.app (.cons hdy .nil) ?_)
      exact (DtAll.ints c0).dn.drop 1
    obtain ⟨xs2, ew2, few2, a2, g2⟩ := (acc.step s4450).push (.tup (SqT.of e50) (.cons (.str _) (.cons (.int _) (.cons (.tup (s50.seqT e49) (DnAll.app (.cons hd1 .nil) ((lDs (s044.trans s4450)).drop 1))) r)))) bad (by omega) ⟨nwh, nwd⟩
    refine st_app ew2 few2 ?_
    exact ⟨_, rfl, a2, (g44.trans s4450.go).trans g2⟩
  rintro σ H51 ⟨fv, rfl, acc, _⟩
  have s051 := s013.trans acc.same
  have h451 := s051.seqT h4
  w_fin
  intro l52 H52 f52 s52 e52
  have h452 := s52.seqT h451
  w_fin
  intro t53 H53 _ s53 e53
  have h453 := s53.seqT h452
  refine st_rPlus h453 (SqT.of e53) (by simp; have := N.wl; omega) fun p54 H54 s54 e54 => ?_
  have h454 := s54.seqT h453
  w_fin
  intro p55 H55 s55 e55
  rw [show (1 : Int) = ((1 : Nat) : Int) from rfl, cut_from] at e55
  w_fin
  intro sl H56 f56 s56 e56
  have h456 := s56.seqT (s55.seqT h454)
  w_fin
  intro t57 H57 _ s57 e57
  have h457 := s57.seqT h456
  w_fin
  intro p58 H58 s58 e58
  rw [show (1 : Int) = ((1 : Nat) : Int) from rfl, cut_from] at e58
  refine st_rPlus (s58.seqT (SqT.of e57)) e58 (by simp; have := N.wl; omega) fun p59 H59 s59 e59 => ?_
  have h459 := s59.seqT (s58.seqT h457)
  w_fin
  intro t60 H60 _ s60 e60
  have h460 := s60.seqT h459
  w_fin
  intro p61 H61 s61 e61
  rw [show (1 : Int) = ((1 : Nat) : Int) from rfl, cut_from] at e61
  refine st_rPlus (s61.seqT (SqT.of e60)) e61 (by simp; have := N.wl; omega) fun p62 H62 s62 e62 => ?_
  have h462 := s62.seqT (s61.seqT h460)
  w_fin
  intro t63 H63 _ s63 e63
  have h463 := s63.seqT h462
  w_fin
  intro p64 H64 s64 e64
  rw [show (1 : Int) = ((1 : Nat) : Int) from rfl, cut_from] at e64
  refine st_rPlus (s64.seqT (SqT.of e63)) e64 (by simp; have := N.wl; omega) fun p65 H65 s65 e65 => ?_
  w_fin
  intro l66 H66 _ s66 e66
  have s5666 : Same H56 H66 := ((((((((s57.trans s58).trans s59).trans s60).trans s61).trans s62).trans s63).trans s64).trans s65).trans s66
  refine st_rCat (s5666 _ _ e56) e66 (by simp) fun cl H67 f67 s67 e67 => ?_
  have s5267 : Same H52 H67 := ((((s53.trans s54).trans s55).trans s56).trans s5666).trans s67
  have s5167 := s52.trans s5267
  have acc67 := acc.step s5167
  obtain ⟨nl52, _⟩ := hand_out acc.hand f52
  obtain ⟨xs0, es0, ew0, _⟩ := acc.ex
  have n52 : wl ≠ l52 := ne_of_none ew0 f52
  have n67 : cl ≠ wl := (ne_of_none ((s52.trans ((((s53.trans s54).trans s55).trans s56).trans s5666)) _ _ ew0) f67).symm
  have dW : ∀ {M : Addr → Prop} {H' : Hp}, DnAll M K H' (ws.map V.int) (ws.map PyData.int) := (DtAll.ints ws).dn
  have allS : DnAll (fun b => b = h ∨ b = wl) K H67 ([.ref l52, .ref p54, .ref p55, .non] ++ [.ref p59, .ref p62, .ref p65]) ([.list (ws.map .int), .tuple (ws.map .int ++ [.int 0]), .tuple ((ws.map .int).drop 1), .none] ++ [.tuple ([.int 4] ++ (ws.map .int).drop 1), .tuple ([.int (-1)] ++ (ws.map .int).drop 1), .tuple ([.bool true] ++ (ws.map .int).drop 1)]) :=
    .cons (.lst (by rintro (z | z); exact nl52 z; exact n52 z.symm) (s5267 _ _ e52) dW) (.cons (.tup ((((s55.trans s56).trans s5666).trans s67).seqT e54) (dW.app (.cons (.int _) .nil))) (.cons (.tup (((s56.trans s5666).trans s67).seqT e55) (dW.drop 1)) (.cons .non
      (.cons (.tup ((((((((s60.trans s61).trans s62).trans s63).trans s64).trans s65).trans s66).trans s67).seqT e59) (DnAll.app (.cons (.int _) .nil) (dW.drop 1)))
        (.cons (.tup (((((s63.trans s64).trans s65).trans s66).trans s67).seqT e62) (DnAll.app (.cons (.int _) .nil) (dW.drop 1)))
          (.cons (.tup ((s66.trans s67).seqT e65) (DnAll.app (.cons (.bl _) .nil) (dW.drop 1))) .nil))))))
  have badS : ∀ (i : Nat) (e : PyData), ([.list (ws.map .int), .tuple (ws.map .int ++ [.int 0]), .tuple ((ws.map .int).drop 1), .none] ++ [.tuple ([.int 4] ++ (ws.map .int).drop 1), .tuple ([.int (-1)] ++ (ws.map .int).drop 1), .tuple ([.bool true] ++ (ws.map .int).drop 1)] : List PyData)[i]? = some e → areNums (n : Int) 3 e = false := fun i e he => by
    have he := List.mem_of_getElem? he
    simp only [List.mem_append, List.mem_cons, List.not_mem_nil, or_false] at he
    have := N.wl
    rcases he with (rfl | rfl | rfl | rfl) | (rfl | rfl | rfl)
    · rfl
    · exact nums_len (by simp; omega)
    · exact nums_len (by simp; omega)
    · rfl
    · exact nums_hd rfl
    · exact nums_hd rfl
    · exact nums_hd rfl
  w_fin
  refine fr_list (xs := [.ref l52, .ref p54, .ref p55, .non] ++ [.ref p59, .ref p62, .ref p65]) (fun i σ H' => ∃ (iv : Option V), σ = [some (.ref h), some (.ref a), some (.ref t5), some (.ref wl), nv, ov, fv, some (.ref sl), iv, some (.str "network"), some (.int n), some (.ref la), some (.ref wa), some (.ref ba)] ∧ Wr K H13 h d ds i0 wl (21 + 2 * i) H' ∧ Go (· = wl) H67 H')
    ⟨none, rfl, acc67, Go.refl _⟩ (fun i σ H' _ z => by
      obtain ⟨_, _, _, g⟩ := z
      exact SqL.of (g.out _ _ n67 e67)) ?_ ?_
  · rintro i x σ H68 hi ⟨iv, rfl, acc, g68⟩
    obtain ⟨xs, es, ew, _⟩ := acc.ex
    have s068 := s013.trans acc.same
    obtain ⟨e, he, hx⟩ := (allS.stay (go_more g68 (M' := fun b => b = h ∨ b = wl) fun b z => .inr z)).of hi
    have il : i < 7 := (List.getElem?_eq_some_iff.mp hi).1
    have be := badS i e he
    w_fin
    intro p69 H69 _ s69 e69
    w_fin
    have dn5 : ∀ {H' : Hp}, Same H H' → Dn (fun b => b = h ∨ b = wl) K H' (.ref la) (.tuple (cols.map tupI)) ∧ Dn (fun b => b = h ∨ b = wl) K H' (.ref wa) (tupI ws) ∧ Dn (fun b => b = h ∨ b = wl) K H' (.ref ba) (tupI bs) := fun s =>
      ⟨Dt.dn (.tup (s.seqT h2) (sls_dt (h3.imp fun _ _ z => s.seqT z))), Dt.dn (.tup (s.seqT h4) (DtAll.ints _)), Dt.dn (.tup (s.seqT h5) (DtAll.ints _))⟩
    obtain ⟨r1, r2, r3⟩ := dn5 (s068.trans s69)
    obtain ⟨xs2, ew2, few2, a2, g2⟩ := (acc.step s69).push (.tup (SqT.of e69) (.cons (.str _) (.cons (.int _) (.cons r1 (.cons (hx.stay s69.go) (.cons r3 .nil)))))) (bad5 (.inr (rest_w be))) (by omega) ⟨nwh, nwd⟩
    refine st_app ew2 few2 ?_
    generalize upd H69 wl (.lst (xs2 ++ [.ref p69])) = H70 at a2 g2 ⊢
    obtain ⟨xs3, es3, ew3, _⟩ := a2.ex
    w_fin
    intro p71 H71 _ s71 e71
    w_fin
    obtain ⟨r1, r2, r3⟩ := dn5 ((s013.trans a2.same).trans s71)
    have g71 : Go (· = wl) H68 H71 := (s69.go.trans g2).trans s71.go
    obtain ⟨xs4, ew4, few4, a4, g4⟩ := (a2.step s71).push (.tup (SqT.of e71) (.cons (.str _) (.cons (.int _) (.cons r1 (.cons r2 (.cons (hx.stay (go_more g71 fun b z => .inr z)) .nil)))))) (bad5 (.inr (rest_b be))) (by omega) ⟨nwh, nwd⟩
    refine st_app ew4 few4 ?_
    exact ⟨_, rfl, a4, (g68.trans g71).trans g4⟩
  rintro σ H68 ⟨iv, rfl, acc, _⟩
  obtain ⟨xs, es, ew, dall, lx, ball⟩ := acc.ex
  have hh68 := acc.hand
  have lx : xs.length = 35 := lx
  w_fin
  refine ⟨h, d, ds, i0, (xs.length : Nat), rfl, hh68, by omega, by omega, fun r H69 r0 r1 hh69 g69 => ?_⟩
  have ew9 := g69.out _ _ nwh ew
  obtain ⟨v, hv⟩ : ∃ v, xs[r.toNat]? = some v := ⟨_, List.getElem?_eq_getElem (by omega)⟩
  obtain ⟨e, he, hx⟩ := (dall.stay (go_more g69 (M' := fun b => b = h ∨ b = wl) fun b z => .inl z)).of hv
  refine st_ixL (SqL.of ew9) (at_of (j := r.toNat) (by omega) hv) ?_
  exact k _ v e H69 (.inl rfl) hh69 ((s013.trans acc.same).go.trans g69) hx (ball e (List.mem_of_getElem? he))
end
section
variable {P : Program} {w : World} {K : PySem.W.Frag} {mg : Str → Option Value} {base : Heap}
theorem nums_ok {m : Int} {l : List Int} {n : Nat} (e : l.length = n) (h : ∀ z ∈ l, 0 ≤ z ∧ z ≤ m) : areNums n m (tupI l) = true := by
  show (decide ((((l.map PyData.int).length : Nat) : Int) = n) && (l.map PyData.int).all (isNum · 0 m)) = true
  rw [decide_eq_true (by rw [List.length_map, e]), Bool.true_and, List.all_map, List.all_eq_true]
  intro z hz
  have := h z hz
  show (decide ((0 : Int) ≤ z) && decide (z ≤ m)) = true
  rw [decide_eq_true this.1, decide_eq_true this.2]
  rfl
theorem ord_ok {n : Nat} {c : List Int} (h : Col n c) : isOrd n (tupI c) = true := by
  unfold isOrd
  have e : intsD (tupI c) = c := by
    show (c.map PyData.int).map numD = c
    rw [List.map_map]
    exact List.map_id' _
  rw [nums_ok h.len fun z hz => by have := h.mem.mp hz; omega, e, decide_eq_true h.nodup]
  rfl
theorem net_ok {n : Nat} {cols : List (List Int)} {ws bs : List Int} (N : Net n cols ws bs) (n4 : n ≤ 400) (D2 : 2 ≤ cols.length) (w4 : ∀ z ∈ ws, 0 ≤ z ∧ z < 4) (b4 : ∀ z ∈ bs, 0 ≤ z ∧ z < 4) : isNetD 4 4 (netD n cols ws bs) = true := by
  have n1 := N.pos
  have D4 := N.D4
  have e1 : isNum (.int (n : Int)) 1 400 = true := by
    show (decide ((1 : Int) ≤ n) && decide ((n : Int) ≤ 400)) = true
    rw [decide_eq_true (by omega), decide_eq_true (by omega)]
    rfl
  have e2 : isNum (.int (((cols.map tupI).length : Nat) : Int)) 2 4 = true := by
    rw [List.length_map]
    show (decide ((2 : Int) ≤ (cols.length : Nat)) && decide (((cols.length : Nat) : Int) ≤ 4)) = true
    rw [decide_eq_true (by omega), decide_eq_true (by omega)]
    rfl
  have e3 : (cols.map tupI).all (isOrd n) = true := by
    rw [List.all_map, List.all_eq_true]
    intro c hc
    exact ord_ok (N.col c hc)
  show (isNetWord (.str "network") && (isNum (.int (n : Int)) 1 400 && (isNum (.int (((cols.map tupI).length : Nat) : Int)) 2 4 && ((cols.map tupI).all (isOrd n) && (areNums n 3 (tupI ws) && areNums n 3 (tupI bs)))))) = true
  rw [show isNetWord (.str "network") = true from rfl, e1, e2, e3, nums_ok N.wl fun z hz => by have := w4 z hz; omega, nums_ok N.bl fun z hz => by have := b4 z hz; omega]
  rfl
theorem net_word {n : Nat} {cols : List (List Int)} {ws bs : List Int} : WordOk (netD n cols ws bs) := wordok_str (by decide +kernel)
end
/-! ### numbered -/
def dictF {β : Type} (κ : List Int → β) : Nat → List (List Int) → List (β × V)
  | _, [] => []
  | n, x :: ks => (κ x, .int n) :: dictF κ (n + 1) ks
theorem dictF_len {β : Type} {κ : List Int → β} : ∀ {n : Nat} {ks : List (List Int)}, (dictF κ n ks).length = ks.length
  | _, [] => rfl
  | n, x :: ks => by
    show (dictF κ (n + 1) ks).length + 1 = ks.length + 1
    rw [dictF_len]
theorem dictF_val {β : Type} [DecidableEq β] {κ : List Int → β} : ∀ {ks : List (List Int)} {n : Nat} {x : List Int}, (∀ y ∈ ks, κ y = κ x → y = x) → valV (dictF κ n ks) (κ x) = if x ∈ ks then some (.int ((n + ks.idxOf x : Nat) : Int)) else none
  | [], n, x, _ => rfl
  | y :: ks, n, x, inj => by
    show valV ((κ y, V.int n) :: dictF κ (n + 1) ks) (κ x) = _
    by_cases q : y = x
    · subst q
      rw [valV_pos rfl, if_pos List.mem_cons_self, List.idxOf_cons_self]
      rfl
    · have q2 : ¬ κ y = κ x := fun z => q (inj y List.mem_cons_self z)
      rw [valV_neg q2, dictF_val fun z hz => inj z (List.mem_cons_of_mem _ hz)]
      by_cases r : x ∈ ks
      · rw [if_pos r, if_pos (List.mem_cons_of_mem _ r), show (y :: ks).idxOf x = ks.idxOf x + 1 by rw [List.idxOf_cons, show (y == x) = false from beq_eq_false_iff_ne.mpr q]; rfl, show n + 1 + ks.idxOf x = n + (ks.idxOf x + 1) by omega]
      · rw [if_neg r, if_neg fun z => by rcases List.mem_cons.mp z with z | z; exact q z.symm; exact r z]
theorem dictF_snoc {β : Type} {κ : List Int → β} : ∀ {ks : List (List Int)} {n : Nat} {x : List Int}, dictF κ n (ks ++ [x]) = dictF κ n ks ++ [(κ x, .int ((n + ks.length : Nat) : Int))]
  | [], n, x => rfl
  | y :: ks, n, x => by
    show (κ y, V.int n) :: dictF κ (n + 1) (ks ++ [x]) = (κ y, V.int n) :: dictF κ (n + 1) ks ++ _
    rw [dictF_snoc, List.cons_append, show n + 1 + ks.length = n + (y :: ks).length by simp; omega]
theorem dictF_put {β : Type} [DecidableEq β] {κ : List Int → β} {ks : List (List Int)} {x : List Int} (inj : ∀ y ∈ ks, κ y = κ x → y = x) (h : ¬ x ∈ ks) : putK (dictF κ 0 ks) (κ x) (.int ((ks.length : Nat) : Int)) = dictF κ 0 (ks ++ [x]) := by
  have e : ((dictF κ 0 ks).any fun kv => decide (kv.1 = κ x)) = false := by
    rw [valV_any, dictF_val inj, if_neg h]
    rfl
  unfold putK
  rw [e, dictF_snoc, Nat.zero_add]
  rfl
theorem lab_step {f : Nat → List Int} {n i : Nat} (h : i < n) : (f i ∈ kF f i → lab f n i = (kF f i).idxOf (f i) ∧ kF f (i + 1) = kF f i) ∧ (¬ f i ∈ kF f i → lab f n i = (kF f i).length ∧ kF f (i + 1) = kF f i ++ [f i]) := by
  have a : lab f n i = lab f (i + 1) i := lab_more (by omega) h
  refine ⟨fun q => ?_, fun q => ?_⟩
  · have e : kF f (i + 1) = kF f i := by rw [show kF f (i + 1) = if f i ∈ kF f i then kF f i else kF f i ++ [f i] from rfl, if_pos q]
    refine ⟨?_, e⟩
    rw [a]
    unfold lab
    rw [e]
  · have e : kF f (i + 1) = kF f i ++ [f i] := by rw [show kF f (i + 1) = if f i ∈ kF f i then kF f i else kF f i ++ [f i] from rfl, if_neg q]
    refine ⟨?_, e⟩
    rw [a]
    unfold lab
    rw [e, List.idxOf_append, if_neg q]
    simp
/-- the numbers of the first n -/
def labL (f : Nat → List Int) (n : Nat) : List Int := (List.range n).map fun i => ((lab f n i : Nat) : Int)
theorem labL_len {f : Nat → List Int} {n : Nat} : (labL f n).length = n := by rw [labL, List.length_map, List.length_range]
theorem labL_at {f : Nat → List Int} {n i : Nat} (h : i < n) : (labL f n)[i]? = some ((lab f n i : Nat) : Int) := by
  unfold labL
  rw [List.getElem?_map, List.getElem?_range h]
  rfl
section
variable {P : Program} {w : World} {K : PySem.W.Frag} {mg : Str → Option Value} {base : Heap}
theorem none_back {H H' : Hp} (s : Same H H') {l : Addr} (h : H' l = none) : H l = none := by
  cases e : H l with
  | none => rfl
  | some o => rw [s _ _ e] at h; cases h
def spNum0 (K : PySem.W.Frag) : Sp := fun vs H Q _ => ∃ (a : Addr) (ns : List Int), vs = [.ref a] ∧ SqT K H a (ns.map V.int) ∧ ns.length ≤ 1000 ∧ ∀ (p : Addr) (H' : Hp), Same H H' → SqN K H' p ((labL (fun i => [atN ns i]) ns.length).map V.int) → Q (.ref p) H'
set_option maxHeartbeats 1000000 in
theorem ok_num0 {f : Addr} {fd : FuncData} (B : Blt mg) (F : Fun K "_numbered" "_numbered" s_numbered f fd) : FnOk P w K mg base CX0 1 f fd ["signs"] (spNum0 K) := by
  have sc : FnScope ["signs", "first", "sign"] ["signs"] (defScope s_numbered) := ⟨rfl, rfl, rfl, by decide +kernel, rfl, by decide +kernel, by decide +kernel⟩
  refine F.ok sc (fun vs H Q E h => ?_) (fun cdv A outer s H vs Q E hr h => ?_)
  · obtain ⟨_, _, rfl, _⟩ := h
    rfl
  obtain ⟨a, ns, rfl, hS, few, k⟩ := h
  refine ⟨_, (pss_cons (ps_set (i := 1) sc.nd rfl (Or.inr rfl) pe_dnewK)
    (pss_one (ps_ret (pe_callTy (show CallR _ _ (rTupF K) from call_tupF) (by rfl) B.tuple (by decide +kernel) (pa_cons (pe_lc (own := [("sign", 2)]) (g := gName 2) (tt := tYes) rfl sc.nd (pi_tup (pv 0)) (blkOk_by (N := ["signs", "first", "sign"]) (sc := defScope s_numbered) (by decide +kernel)) (fun _ _ _ _ _ => pg_name (i := 2) sc.nd rfl (Or.inl rfl)) (fun _ _ _ _ _ => pts_nil) (fun _ _ _ _ _ => (pe_dsetd (pv 1) (pv 2) (pe_callB call_lenD (by rfl) B.len (by decide +kernel) (pa_cons (pv 1) pa_nil)) ⟨rfl, rfl, rfl, rfl⟩))) pa_nil))))), ?_⟩
  try dsimp only [cxOf]
  w_fin
  intro d hd
  have s1 := same_new hd (.dK [])
  have e1 : (upd H d (.dK [])) d = some (.dK []) := upd_same
  generalize upd H d (.dK []) = H1 at s1 e1 ⊢
  have hS1 := s1.seqT hS
  w_fin
  intro l hl
  have nd : l ≠ d := (ne_of_none e1 hl).symm
  have inj : ∀ i, ∀ y ∈ kF (fun i => [atN ns i]) i, (Sum.inl (y.headD 0) : Key) = Sum.inl (([atN ns i] : List Int).headD 0) → y = [atN ns i] := fun i y hy e => by
    obtain ⟨j, _, rfl⟩ := mem_kF.mp hy
    have : atN ns j = atN ns i := by injection e
    rw [this]
  refine itt_walk (xs := ns.map V.int) (fun i H' => Same H H' ∧ H' d = some (.dK (dictF (fun r => (Sum.inl (r.headD 0) : Key)) 0 (kF (fun i => [atN ns i]) i))) ∧ H' l = some (.lst (((labL (fun i => [atN ns i]) ns.length).take i).map V.int)))
    ⟨s1.trans (same_new hl _), by rw [upd_ne nd.symm]; exact e1, upd_same⟩ (fun i H' _ z => z.1.seqT hS) ?_ ?_
  · rintro i y H2 hi ⟨s2, ed, el⟩
    rw [List.getElem?_map, Option.map_eq_some_iff] at hi
    obtain ⟨z, hz, rfl⟩ := hi
    have il : i < ns.length := (List.getElem?_eq_some_iff.mp hz).1
    have ez : atN ns (i : Int) = z := by
      unfold atN
      rw [show ((i : Int)).toNat = i by omega, hz]
      rfl
    w_fin
    refine ⟨_, rfl, d, rfl, .inl ⟨_, .inl ed⟩, _, rfl, ?_⟩
    w_fin
    refine ⟨d, _, rfl, ed, ?_⟩
    have hv : valV (dictF (fun r => (Sum.inl (r.headD 0) : Key)) 0 (kF (fun i => [atN ns i]) i)) (Sum.inl z) = if [atN ns i] ∈ kF (fun i => [atN ns i]) i then some (.int ((0 + (kF (fun i => [atN ns i]) i).idxOf [atN ns i] : Nat) : Int)) else none := by
      rw [← ez]
      exact dictF_val (κ := fun r => (Sum.inl (r.headD 0) : Key)) (x := [atN ns i]) (n := 0) (inj i)
    have hs := lab_step (f := fun i => [atN ns i]) il
    have small : (dictF (fun r => (Sum.inl (r.headD 0) : Key)) 0 (kF (fun i => [atN ns i]) i)).length < sizeLine := by
      rw [dictF_len]
      exact lt_small (by have := kF_len (f := fun i => [atN ns i]) i; omega)
    have fin : ∀ (H3 : Hp), Same H H3 → H3 d = some (.dK (dictF (fun r => (Sum.inl (r.headD 0) : Key)) 0 (kF (fun i => [atN ns i]) (i + 1)))) → H3 l = some (.lst (((labL (fun i => [atN ns i]) ns.length).take i).map V.int)) →
        ∃ acc, H3 l = some (.lst acc) ∧ acc.length < sizeLine ∧ (Same H (upd H3 l (.lst (acc ++ [V.int ((lab (fun i => [atN ns i]) ns.length i : Nat) : Int)]))) ∧ (upd H3 l (.lst (acc ++ [V.int ((lab (fun i => [atN ns i]) ns.length i : Nat) : Int)]))) d = some (.dK (dictF (fun r => (Sum.inl (r.headD 0) : Key)) 0 (kF (fun i => [atN ns i]) (i + 1)))) ∧ (upd H3 l (.lst (acc ++ [V.int ((lab (fun i => [atN ns i]) ns.length i : Nat) : Int)]))) l = some (.lst (((labL (fun i => [atN ns i]) ns.length).take (i + 1)).map V.int))) := fun H3 s3 ed3 el3 =>
      ⟨_, el3, lt_small (by rw [List.length_map, List.length_take]; omega), same_own s3 (none_back s1 hl) _, by rw [upd_ne nd.symm]; exact ed3, by rw [upd_same, take_more (labL_at il), List.map_append]; rfl⟩
    refine ⟨_, Sum.inl z, ed, rfl, small, fun v hv2 => ?_, fun hn => ?_⟩
    · by_cases q : [atN ns i] ∈ kF (fun i => [atN ns i]) i
      · rw [hv, if_pos q] at hv2
        cases hv2
        rw [Nat.zero_add, ← (hs.1 q).1]
        exact fin H2 s2 (by rw [(hs.1 q).2]; exact ed) el
      · rw [hv, if_neg q] at hv2
        cases hv2
    · by_cases q : [atN ns i] ∈ kF (fun i => [atN ns i]) i
      · rw [hv, if_pos q] at hn
        cases hn
      · rw [dictF_len, show (Sum.inl z : Key) = (fun r : List Int => (Sum.inl (r.headD 0) : Key)) [atN ns i] by rw [← ez]; rfl, dictF_put (inj i) q, ← (hs.2 q).1, ← (hs.2 q).2]
        exact fin _ (same_own s2 hd _) upd_same (by rw [upd_ne nd]; exact el)
  · rintro H2 ⟨s2, ed, el⟩
    rw [List.length_map, List.take_of_length_le (by rw [labL_len]; omega)] at el
    w_fin
    intro p H3 _ s3 hp hpn
    exact k p H3 (s2.trans s3) ⟨hp, hpn⟩
def keyT (r : List Int) : List Key := r.map Sum.inl
theorem keyT_inj : ∀ {a b : List Int}, keyT a = keyT b → a = b
  | [], [], _ => rfl
  | [], _ :: _, e => by cases e
  | _ :: _, [], e => by cases e
  | x :: a, y :: b, e => by
    have e' : (Sum.inl x : Key) :: keyT a = Sum.inl y :: keyT b := e
    injection e' with e1 e2
    have : x = y := by injection e1
    rw [this, keyT_inj e2]
theorem keyT_V (r : List Int) : r.map V.int = (keyT r).map kV := by
  unfold keyT
  rw [List.map_map]
  rfl
def spNumT (K : PySem.W.Frag) : Sp := fun vs H Q _ => ∃ (a : Addr) (xs : List V) (f : Nat → List Int) (n : Nat), vs = [.ref a] ∧ H a = some (.lst xs) ∧ xs.length = n ∧ n ≤ 1000 ∧ (∀ i, i < n → ∃ b, xs[i]? = some (.ref b) ∧ H b = some (.tup ((f i).map V.int))) ∧
  ∀ (p : Addr) (H' : Hp), Same H H' → SqN K H' p ((labL f n).map V.int) → Q (.ref p) H'
set_option maxHeartbeats 1000000 in
theorem ok_numT {f : Addr} {fd : FuncData} (B : Blt mg) (F : Fun K "_numbered" "_numbered" s_numbered f fd) : FnOk P w K mg base CX0 1 f fd ["signs"] (spNumT K) := by
  have sc : FnScope ["signs", "first", "sign"] ["signs"] (defScope s_numbered) := ⟨rfl, rfl, rfl, by decide +kernel, rfl, by decide +kernel, by decide +kernel⟩
  refine F.ok sc (fun vs H Q E h => ?_) (fun cdv A outer s H vs Q E hr h => ?_)
  · obtain ⟨_, _, _, _, rfl, _⟩ := h
    rfl
  obtain ⟨a, xs, g, n, rfl, hS, lxs, few, tup, k⟩ := h
  refine ⟨_, (pss_cons (ps_set (i := 1) sc.nd rfl (Or.inr rfl) pe_dnewT)
    (pss_one (ps_ret (pe_callTy (show CallR _ _ (rTupF K) from call_tupF) (by rfl) B.tuple (by decide +kernel) (pa_cons (pe_lc (own := [("sign", 2)]) (g := gName 2) (tt := tYes) rfl sc.nd (pi_list (pv 0)) (blkOk_by (N := ["signs", "first", "sign"]) (sc := defScope s_numbered) (by decide +kernel)) (fun _ _ _ _ _ => pg_name (i := 2) sc.nd rfl (Or.inl rfl)) (fun _ _ _ _ _ => pts_nil) (fun _ _ _ _ _ => (pe_dsetdT hr.units (pv 1) (pv 2) (pe_callB call_len_dT (by rfl) B.len (by decide +kernel) (pa_cons (pv 1) pa_nil)) ⟨rfl, rfl, rfl, rfl⟩))) pa_nil))))), ?_⟩
  try dsimp only [cxOf]
  w_fin
  intro d hd
  have s1 := same_new hd (.dT [])
  have e1 : (upd H d (.dT [])) d = some (.dT []) := upd_same
  generalize upd H d (.dT []) = H1 at s1 e1 ⊢
  have hS1 := s1 _ _ hS
  w_fin
  intro l hl
  have nd : l ≠ d := (ne_of_none e1 hl).symm
  have inj : ∀ i, ∀ y ∈ kF g i, keyT y = keyT (g i) → y = g i := fun i y _ e => keyT_inj e
  refine itl_walk (xs := xs) (fun i H' => Same H H' ∧ H' d = some (.dT (dictF keyT 0 (kF g i))) ∧ H' l = some (.lst (((labL g n).take i).map V.int)))
    ⟨s1.trans (same_new hl _), by rw [upd_ne nd.symm]; exact e1, upd_same⟩ (fun i H' _ z => SqL.of (z.1 _ _ hS)) ?_ ?_
  · rintro i y H2 hi ⟨s2, ed, el⟩
    have il : i < n := by rw [← lxs]; exact (List.getElem?_eq_some_iff.mp hi).1
    obtain ⟨b, hb, eb⟩ := tup i il
    rw [hi] at hb
    cases hb
    w_fin
    refine ⟨_, rfl, ⟨d, rfl, .inr ⟨_, .inl ed⟩⟩, _, rfl, ?_⟩
    w_fin
    refine ⟨d, _, rfl, ed, ?_⟩
    have hv : valV (dictF keyT 0 (kF g i)) (keyT (g i)) = if g i ∈ kF g i then some (.int ((0 + (kF g i).idxOf (g i) : Nat) : Int)) else none := dictF_val (inj i)
    have hs := lab_step (f := g) il
    have small : (dictF keyT 0 (kF g i)).length < sizeLine := by
      rw [dictF_len]
      exact lt_small (by have := kF_len (f := g) i; omega)
    have fin : ∀ (H3 : Hp), Same H H3 → H3 d = some (.dT (dictF keyT 0 (kF g (i + 1)))) → H3 l = some (.lst (((labL g n).take i).map V.int)) →
        ∃ acc, H3 l = some (.lst acc) ∧ acc.length < sizeLine ∧ (Same H (upd H3 l (.lst (acc ++ [V.int ((lab g n i : Nat) : Int)]))) ∧ (upd H3 l (.lst (acc ++ [V.int ((lab g n i : Nat) : Int)]))) d = some (.dT (dictF keyT 0 (kF g (i + 1)))) ∧ (upd H3 l (.lst (acc ++ [V.int ((lab g n i : Nat) : Int)]))) l = some (.lst (((labL g n).take (i + 1)).map V.int))) := fun H3 s3 ed3 el3 =>
      ⟨_, el3, lt_small (by rw [List.length_map, List.length_take, labL_len]; omega), same_own s3 (none_back s1 hl) _, by rw [upd_ne nd.symm]; exact ed3, by rw [upd_same, take_more (labL_at il), List.map_append]; rfl⟩
    refine ⟨d, b, _, keyT (g i), rfl, ed, rfl, by rw [← keyT_V]; exact s2 _ _ eb, small, fun v hv2 => ?_, fun hn => ?_⟩
    · by_cases q : g i ∈ kF g i
      · rw [hv, if_pos q] at hv2
        cases hv2
        rw [Nat.zero_add, ← (hs.1 q).1]
        exact fin H2 s2 (by rw [(hs.1 q).2]; exact ed) el
      · rw [hv, if_neg q] at hv2
        cases hv2
    · by_cases q : g i ∈ kF g i
      · rw [hv, if_pos q] at hn
        cases hn
      · rw [dictF_len, dictF_put (inj i) q, ← (hs.2 q).1, ← (hs.2 q).2]
        exact fin _ (same_own s2 hd _) upd_same (by rw [upd_ne nd]; exact el)
  · rintro H2 ⟨s2, ed, el⟩
    rw [lxs, List.take_of_length_le (by rw [labL_len]; omega)] at el
    w_fin
    intro p H3 _ s3 hp hpn
    exact k p H3 (s2.trans s3) ⟨hp, hpn⟩
end
/-! ### a network's kinds -/
def nbN (n : Nat) (cols : List (List Int)) (j : Nat) (sd : Bool) (i : Nat) : Nat := (nnx n cols (1 + (j : Int)) (sd, (i : Int))).2.toNat
def inN (ws bs : List Int) (sd : Bool) (i : Nat) : Int := nfun ws bs (sd, (i : Int))
theorem nb_at {n : Nat} {cols : List (List Int)} {ws bs : List Int} (N : Net n cols ws bs) {sd : Bool} {i j : Nat} (hi : i < n) (hj : j < cols.length) :
    ∃ c, (colsOf n cols sd)[j]? = some c ∧ c[i]? = some ((nbN n cols j sd i : Nat) : Int) ∧ nbN n cols j sd i < n ∧ nnx n cols (1 + (j : Int)) (sd, (i : Int)) = (!sd, ((nbN n cols j sd i : Nat) : Int)) := by
  obtain ⟨c, z, hc, hz, z0, z1, e⟩ := N.nx (sd := sd) (i := (i : Int)) (j := j) (by omega) (by omega) hj
  have ez : ((nbN n cols j sd i : Nat) : Int) = z := by
    unfold nbN
    rw [e]
    show ((z.toNat : Nat) : Int) = z
    omega
  rw [show ((i : Int)).toNat = i by omega] at hz
  exact ⟨c, hc, by rw [ez]; exact hz, by omega, by rw [ez]; exact e⟩
theorem nb_lt {n : Nat} {cols : List (List Int)} {ws bs : List Int} (N : Net n cols ws bs) : ∀ c sd i, c < cols.length → i < n → nbN n cols c sd i < n := fun c sd i hc hi => by
  obtain ⟨_, _, _, h, _⟩ := nb_at N (sd := sd) hi hc
  exact h
theorem nb_inv {n : Nat} {cols : List (List Int)} {ws bs : List Int} (N : Net n cols ws bs) : ∀ c sd i, c < cols.length → i < n → nbN n cols c (!sd) (nbN n cols c sd i) = i := fun j sd i hj hi => by
  have hc : cols[j]? = some cols[j] := List.getElem?_eq_getElem hj
  have C := N.col _ (List.getElem_mem hj)
  obtain ⟨c1, h1, z1, l1, _⟩ := nb_at N (sd := sd) hi hj
  obtain ⟨c2, h2, z2, l2, _⟩ := nb_at N (sd := !sd) l1 hj
  have y1 : ∀ {c : List Int}, (colsOf n cols true)[j]? = some c → c = cols[j] := fun {c} h => by
    have : cols[j]? = some c := h
    rw [hc] at this
    exact (Option.some.inj this).symm
  have y2 : ∀ {c : List Int}, (colsOf n cols false)[j]? = some c → c = back n cols[j] := fun {c} h => by
    have : (cols.map (back n))[j]? = some c := h
    rw [List.getElem?_map, hc] at this
    exact (Option.some.inj this).symm
  have bk : ∀ {k : Nat} {z : Int}, k < n → (back n cols[j])[k]? = some z → cols[j][z.toNat]? = some (k : Int) := fun {k z} hk h => by
    have e := back_at (n := n) (c := cols[j]) (b := (k : Int)) (by omega) (by omega)
    rw [show ((k : Int)).toNat = k by omega, h] at e
    obtain ⟨_, _, s⟩ := C.spot (b := (k : Int)) (by omega) (by omega)
    rw [Option.some.inj e]
    exact s
  cases sd with
  | true =>
    have q1 := y1 h1
    have q2 := y2 h2
    subst q1 q2
    have s := bk l1 z2
    rw [Int.toNat_natCast] at s
    exact C.inj s z1
  | false =>
    have q1 := y2 h1
    have q2 := y1 h2
    subst q1 q2
    have s := bk hi z1
    rw [Int.toNat_natCast, z2] at s
    have := Option.some.inj s
    omega
/-- a side's numbers after k turns -/
def kinL (n : Nat) (cols : List (List Int)) (ws bs : List Int) (k : Nat) (sd : Bool) : List Int := labL (src n cols.length (inN ws bs) (nbN n cols) k sd) n
theorem kinL_len {n : Nat} {cols : List (List Int)} {ws bs : List Int} {k : Nat} {sd : Bool} : (kinL n cols ws bs k sd).length = n := labL_len
theorem kinL_at {n : Nat} {cols : List (List Int)} {ws bs : List Int} {k : Nat} {sd : Bool} {i : Nat} (h : i < n) : (kinL n cols ws bs k sd)[i]? = some ((kin n cols.length (inN ws bs) (nbN n cols) k sd i : Nat) : Int) := labL_at h
theorem labL_congr {f g : Nat → List Int} {n : Nat} (h : ∀ i, i < n → lab f n i = lab g n i) : labL f n = labL g n := List.map_congr_left fun i hi => by rw [h i (List.mem_range.mp hi)]
theorem kin_zero {n : Nat} {cols : List (List Int)} {ws bs : List Int} (N : Net n cols ws bs) (sd : Bool) : labL (fun i => [atN (if sd then ws else bs) i]) n = kinL n cols ws bs 0 sd := rfl
section
variable {P : Program} {w : World} {K : PySem.W.Frag} {mg : Str → Option Value} {base : Heap}
/-- what the program keeps: the numbers of the two sides -/
def PartV (K : PySem.W.Frag) (H : Hp) (p : Addr) (L : Bool → List Int) : Prop := ∃ (wl bl : Addr), H p = some (.dK [(Sum.inr "white", .ref wl), (Sum.inr "black", .ref bl)]) ∧ SqN K H wl ((L true).map V.int) ∧ SqN K H bl ((L false).map V.int)
theorem PartV.stay {H H' : Hp} {p : Addr} {L : Bool → List Int} (s : Same H H') (h : PartV K H p L) : PartV K H' p L := by
  obtain ⟨wl, bl, h1, h2, h3⟩ := h
  exact ⟨wl, bl, s _ _ h1, h2.stay s.tups, h3.stay s.tups⟩
theorem PartV.get {H : Hp} {p : Addr} {L : Bool → List Int} (h : PartV K H p L) (sd : Bool) : ∃ l : Addr, (∀ H', Same H H' → DGet H' p (.str (sideS sd)) (some (.ref l))) ∧ SqN K H l ((L sd).map V.int) := by
  obtain ⟨wl, bl, h1, h2, h3⟩ := h
  cases sd with
  | true => exact ⟨wl, fun H' s => .inl ⟨_, Sum.inr "white", .inl (s _ _ h1), rfl, rfl⟩, h2⟩
  | false => exact ⟨bl, fun H' s => .inl ⟨_, Sum.inr "black", .inl (s _ _ h1), rfl, rfl⟩, h3⟩
/-- signs that grow -/
structure AccS (H0 : Hp) (q : Addr) (f : Nat → List Int) (k : Nat) (H : Hp) : Prop where
  free : H0 q = none
  same : Same H0 H
  ex : ∃ xs, H q = some (.lst xs) ∧ xs.length = k ∧ ∀ i, i < k → ∃ b, xs[i]? = some (.ref b) ∧ H b = some (.tup ((f i).map V.int))
theorem AccS.start {H0 : Hp} {q : Addr} {f : Nat → List Int} (h : H0 q = none) : AccS H0 q f 0 (upd H0 q (.lst [])) := ⟨h, same_new h _, [], upd_same, rfl, fun i hi => absurd hi (Nat.not_lt_zero i)⟩
theorem AccS.step {H0 H H' : Hp} {q : Addr} {f : Nat → List Int} {k : Nat} (a : AccS H0 q f k H) (s : Same H H') : AccS H0 q f k H' := by
  obtain ⟨xs, e, l, h⟩ := a.ex
  exact ⟨a.free, a.same.trans s, xs, s _ _ e, l, fun i hi => by
    obtain ⟨b, h1, h2⟩ := h i hi
    exact ⟨b, h1, s _ _ h2⟩⟩
theorem AccS.fin {H0 H : Hp} {q b : Addr} {f : Nat → List Int} {k : Nat} {N : Hp → Prop} (a : AccS H0 q f k H) (hb : H b = some (.tup ((f k).map V.int))) (few : k ≤ 100000) (h : ∀ H', AccS H0 q f (k + 1) H' → N H') : ∃ acc, H q = some (.lst acc) ∧ acc.length < sizeLine ∧ N (upd H q (.lst (acc ++ [V.ref b]))) := by
  obtain ⟨xs, e, l, g⟩ := a.ex
  refine ⟨xs, e, lt_small (by omega), h _ ⟨a.free, same_own a.same a.free _, _, upd_same, by rw [List.length_append, l]; rfl, fun i hi => ?_⟩⟩
  have nq : ∀ {c : Addr} {ys : List V}, H c = some (.tup ys) → c ≠ q := fun {c ys} ec z => by rw [z, e] at ec; cases ec
  by_cases r : i = k
  · subst r
    exact ⟨b, by rw [List.getElem?_append_right (by omega), l, Nat.sub_self]; rfl, by rw [upd_ne (nq hb)]; exact hb⟩
  · obtain ⟨c, h1, h2⟩ := g i (by omega)
    exact ⟨c, by rw [List.getElem?_append_left (by omega)]; exact h1, by rw [upd_ne (nq h2)]; exact h2⟩
def spSigns (K : PySem.W.Frag) : Sp := fun vs H Q _ => ∃ (p e : Addr) (sd : Bool) (k n : Nat) (cols : List (List Int)) (ws bs : List Int), vs = [.ref p, .ref e, .str (sideS sd)] ∧ PartV K H p (kinL n cols ws bs k) ∧ EndsV K H e n cols ∧ Net n cols ws bs ∧
  ∀ (l : Addr) (xs : List V) (H' : Hp), Same H H' → H' l = some (.lst xs) → xs.length = n → (∀ i, i < n → ∃ b, xs[i]? = some (.ref b) ∧ H' b = some (.tup ((src n cols.length (inN ws bs) (nbN n cols) (k + 1) sd i).map V.int))) → Q (.ref l) H'
set_option maxHeartbeats 1000000 in
theorem ok_signs {f : Addr} {fd : FuncData} (B : Blt mg) (gother_side : Has P w K mg base CX0 1 "other_side" ["side"] (spOther K)) (F : Fun K "_signs" "_signs" s_signs f fd) : FnOk P w K mg base CX0 2 f fd ["parted", "ends", "side"] (spSigns K) := by
  have sc : FnScope ["parted", "ends", "side", "own", "other", "columns", "node", "column"] ["parted", "ends", "side"] (defScope s_signs) := ⟨rfl, rfl, rfl, by decide +kernel, rfl, by decide +kernel, by decide +kernel⟩
  refine F.ok sc (fun vs H Q E h => ?_) (fun cdv A outer s H vs Q E hr h => ?_)
  · obtain ⟨_, _, _, _, _, _, _, _, rfl, _⟩ := h
    rfl
  obtain ⟨p, e, sd, k, n, cols, ws, bs, rfl, hP, hE, N, kk⟩ := h
  refine ⟨_, (pss_cons (ps_set (i := 3) sc.nd rfl (Or.inr rfl) (pe_dget (hu_of hr) (pv 0) (pv 2) (fun _ _ => rfl)))
    (pss_cons (ps_set (i := 4) sc.nd rfl (Or.inr rfl) (pe_dget (hu_of hr) (pv 0) (pc gother_side hr (pa_cons (pv 2) pa_nil)) (fun _ _ => rfl)))
    (pss_cons (ps_set (i := 5) sc.nd rfl (Or.inr rfl) (pe_dget (hu_of hr) (pv 1) (pv 2) (fun _ _ => rfl)))
    (pss_one (ps_ret (pe_lc (own := [("node", 6)]) (g := gName 6) (tt := tYes) rfl sc.nd (pi_range1 (by rfl) B.range (pa_cons (pe_callB call_len_seq (by rfl) B.len (by decide +kernel) (pa_cons (pv 3) pa_nil)) pa_nil)) (blkOk_by (N := ["parted", "ends", "side", "own", "other", "columns", "node", "column"]) (sc := defScope s_signs) (by decide +kernel)) (fun _ _ _ _ _ => pg_name (i := 6) sc.nd rfl (Or.inr rfl)) (fun _ _ _ _ _ => pts_nil) (fun _ _ _ _ _ => (pe_op (show OpR _ _ rPlusT from op_plusT) (pe_tupN (pa_cons (pe_ix (show IxR _ (rIxT K) from ix_tup) (pv 3) (pv 6) (fun _ _ => rfl)) pa_nil)) (pe_callTy (show CallR _ _ (rTupN K) from call_tupN) (by rfl) B.tuple (by decide +kernel) (pa_cons (pe_lc (own := [("column", 7)]) (wi := iTup K _) (g := gName 7) (tt := tYes) rfl sc.nd (pi_tup (pv 5)) (blkOk_by (N := ["parted", "ends", "side", "own", "other", "columns", "node", "column"]) (sc := _) (by first | rfl | with_unfolding_all rfl)) (fun _ _ _ _ _ => pg_name (i := 7) sc.nd rfl (Or.inl rfl)) (fun _ _ _ _ _ => pts_nil) (fun _ _ _ _ _ => (pe_ix (show IxR _ (rIxT K) from ix_tup) (pv 4) (pe_ix (show IxR _ (rIxT K) from ix_tup) (pv 7) (pv 6) (fun _ _ => rfl)) (fun _ _ => rfl)))) pa_nil)))))))))), ?_⟩
  try dsimp only [cxOf]
  obtain ⟨el, cs, hge, hel, hcs⟩ := hE.get sd
  obtain ⟨own, hgo, hown⟩ := hP.get sd
  obtain ⟨oth, hgt, hoth⟩ := hP.get (!sd)
  have few := N.few
  have D4 := N.D4
  have lcs : cs.length = cols.length := by rw [hcs.len, colsOf_len]
  have hown1 := hown.1
  w_fin
  refine ⟨p, .ref own, rfl, hgo _ (Same.refl _), ?_⟩
  w_fin
  refine ⟨sd, rfl, ?_⟩
  w_fin
  refine ⟨p, .ref oth, rfl, hgt _ (Same.refl _), ?_⟩
  w_fin
  refine ⟨e, .ref el, rfl, hge _ (Same.refl _), ?_⟩
  w_fin
  rw [List.length_map, kinL_len]
  w_fin
  intro pl hpl
  refine itr_walk (lo := 0) (n := ((n : Nat) : Int).toNat) (fun i H' => AccS H pl (src n cols.length (inN ws bs) (nbN n cols) (k + 1) sd) i H') (AccS.start hpl) ?_ ?_
  · rintro i H1 hi acc
    have hi : i < n := by omega
    have s1 := acc.same
    w_fin
    refine st_ixT (s1.seqT hown.1) (at_of (j := i) (v := .int ((kin n cols.length (inN ws bs) (nbN n cols) k sd i : Nat) : Int)) (by omega) (by rw [List.getElem?_map, kinL_at hi]; rfl)) ?_
    w_fin
    intro t1 H2 _ s2 e2
    have s02 := s1.trans s2
    have hel2 := s02.seqT hel
    w_fin
    intro ql hql
    refine itt_walk (xs := cs) (fun j H' => AccI H2 ql (((List.range cols.length).take j).map fun c => ((kin n cols.length (inN ws bs) (nbN n cols) k (!sd) (nbN n cols c sd i) : Nat) : Int)) H') (AccI.start hql) (fun j H' _ a => a.same.seqT hel2) ?_ ?_
    · rintro j y H3 hj a2
      have jD : j < cols.length := by
        have := (List.getElem?_eq_some_iff.mp hj).1
        omega
      obtain ⟨c', hc', hz, lt, _⟩ := nb_at N (sd := sd) hi jD
      obtain ⟨cb, hcb, hcbS⟩ := hcs.at hc'
      rw [hcb] at hj
      cases hj
      have s03 := s02.trans a2.same
      w_fin
      refine st_ixT (s03.seqT hcbS) (at_of (j := i) (v := .int ((nbN n cols j sd i : Nat) : Int)) (by omega) (by rw [List.getElem?_map, hz]; rfl)) ?_
      w_fin
      refine st_ixT (s03.seqT hoth.1) (at_of (j := nbN n cols j sd i) (v := .int ((kin n cols.length (inN ws bs) (nbN n cols) k (!sd) (nbN n cols j sd i) : Nat) : Int)) (by omega) (by rw [List.getElem?_map, kinL_at lt]; rfl)) ?_
      refine a2.fin (by rw [List.length_map, List.length_take]; omega) fun H' a => ?_
      rw [take_more (List.getElem?_range jD), List.map_append]
      exact a
    · intro H3 a2
      rw [List.take_of_length_le (by rw [List.length_range]; omega)] at a2
      have e3 := a2.ex
      w_fin
      intro t2 H4 _ s4 e4
      have e24 := s4 _ _ (a2.same _ _ e2)
      refine ⟨t1, t2, _, _, rfl, rfl, e24, e4, le_sz (by rw [List.length_map, List.length_map, List.length_range]; simp only [List.length_cons, List.length_nil]; omega), fun b H5 s5 e5 => ?_⟩
      refine (acc.step (((s2.trans a2.same).trans s4).trans s5)).fin ?_ (by omega) fun H' a => a
      rw [e5]
      rfl
  · rintro H1 acc
    obtain ⟨xs, e1, l1, h1⟩ := acc.ex
    rw [Int.toNat_natCast] at l1 h1
    exact kk pl xs H1 acc.same e1 l1 h1
end
theorem kin_max {n : Nat} {cols : List (List Int)} {ws bs : List Int} {k : Nat} {sd : Bool} (n1 : 1 ≤ n) {m : Int} (hm : m ∈ kinL n cols ws bs k sd) (hx : ∀ y ∈ kinL n cols ws bs k sd, y ≤ m) : m + 1 = ((kF (src n cols.length (inN ws bs) (nbN n cols) k sd) n).length : Nat) := by
  obtain ⟨i, hi, rfl⟩ := List.mem_map.mp hm
  have l := lab_lt (f := src n cols.length (inN ws bs) (nbN n cols) k sd) (List.mem_range.mp hi)
  have pos := kF_pos (f := src n cols.length (inN ws bs) (nbN n cols) k sd) n1
  obtain ⟨j, hj, e⟩ := lab_onto (f := src n cols.length (inN ws bs) (nbN n cols) k sd) (t := n) (c := (kF (src n cols.length (inN ws bs) (nbN n cols) k sd) n).length - 1) (by omega)
  have := hx _ (List.mem_map.mpr ⟨j, List.mem_range.mpr hj, rfl⟩)
  rw [e] at this
  omega
section
variable {P : Program} {w : World} {K : PySem.W.Frag} {mg : Str → Option Value} {base : Heap}
def SidesT (K : PySem.W.Frag) (a : Addr) : Prop := ∃ (o : Obj) (its : Array Value) (n : Nat), K.lookup a = some o ∧ o.cls = .type "tuple" ∧ o.data = .seq its n ∧ its.size ≤ sizeLine ∧ Vals [V.str "white", V.str "black"] its.toList
def spCount (K : PySem.W.Frag) : Sp := fun vs H Q _ => ∃ (p : Addr) (k n : Nat) (cols : List (List Int)) (ws bs : List Int), vs = [.ref p] ∧ PartV K H p (kinL n cols ws bs k) ∧ 1 ≤ n ∧ n ≤ 1000 ∧ Q (.int ((cn n cols.length (inN ws bs) (nbN n cols) k : Nat) : Int)) H
theorem ok_count {f : Addr} {fd : FuncData} (B : Blt mg) (F : Fun K "_count" "_count" s_count f fd) : FnOk P w K mg base CX0 1 f fd ["parted"] (spCount K) := by
  have sc : FnScope ["parted"] ["parted"] (defScope s_count) := ⟨rfl, rfl, rfl, by decide +kernel, rfl, by decide +kernel, by decide +kernel⟩
  refine F.ok sc (fun vs H Q E h => ?_) (fun cdv A outer s H vs Q E hr h => ?_)
  · obtain ⟨_, _, _, _, _, _, rfl, _⟩ := h
    rfl
  obtain ⟨p, k, n, cols, ws, bs, rfl, hP, n1, few, kk⟩ := h
  refine ⟨_, (pss_one (ps_ret (pe_op op_add (pe_op op_add (pe_callB (show CallR _ _ (rMaxT K) from cr_maxT rfl hr.units) (by rfl) B.max (by decide +kernel) (pa_cons (pe_dget (hu_of hr) (pv 0) pe_str (fun _ _ => rfl)) pa_nil)) (pe_callB (show CallR _ _ (rMaxT K) from cr_maxT rfl hr.units) (by rfl) B.max (by decide +kernel) (pa_cons (pe_dget (hu_of hr) (pv 0) pe_str (fun _ _ => rfl)) pa_nil))) pe_int))), ?_⟩
  try dsimp only [cxOf]
  obtain ⟨wl, hgw, hw⟩ := hP.get true
  obtain ⟨bl, hgb, hb⟩ := hP.get false
  w_fin
  refine ⟨p, .ref wl, rfl, hgw _ (Same.refl _), ?_⟩
  w_fin
  refine ⟨wl, _, rfl, hw.1, by rw [kinL_len]; omega, fun m1 hm1 hx1 => ?_⟩
  w_fin
  refine ⟨p, .ref bl, rfl, hgb _ (Same.refl _), ?_⟩
  w_fin
  refine ⟨bl, _, rfl, hb.1, by rw [kinL_len]; omega, fun m2 hm2 hx2 => ?_⟩
  have a := kin_max n1 hm1 hx1
  have b := kin_max n1 hm2 hx2
  w_fin
  have l1 := kF_len (f := src n cols.length (inN ws bs) (nbN n cols) k true) n
  have l2 := kF_len (f := src n cols.length (inN ws bs) (nbN n cols) k false) n
  have e : m1 + m2 + 2 = ((cn n cols.length (inN ws bs) (nbN n cols) k : Nat) : Int) := by
    unfold cn
    omega
  rw [e]
  exact kk
theorem tups_dk {H : Hp} {p : Addr} {kvs : List (Key × V)} (h : H p = some (.dK kvs)) (ys : List (Key × V)) : TupsStay H (upd H p (.dK ys)) := fun b o hk e => by
  rw [upd_ne (ne_of e h ?_)]
  · exact e
  · rcases hk with ⟨_, rfl⟩ | ⟨_, _, rfl⟩ <;> exact nofun
/-- the numbers of the sides, being filled in -/
structure AccP (K : PySem.W.Frag) (H0 : Hp) (p : Addr) (L : Bool → List Int) (k : Nat) (H : Hp) : Prop where
  free : H0 p = none
  same : Same H0 H
  ex : ∃ kvs, H p = some (.dK kvs) ∧ ((k = 0 ∧ kvs = []) ∨ (k = 1 ∧ ∃ wl, kvs = ([(Sum.inr "white", V.ref wl)] : List (Key × V)) ∧ SqN K H wl ((L true).map V.int)) ∨
    (k = 2 ∧ ∃ wl bl, kvs = ([(Sum.inr "white", V.ref wl), (Sum.inr "black", V.ref bl)] : List (Key × V)) ∧ SqN K H wl ((L true).map V.int) ∧ SqN K H bl ((L false).map V.int)))
theorem AccP.start {H0 : Hp} {p : Addr} {L : Bool → List Int} (h : H0 p = none) : AccP K H0 p L 0 (upd H0 p (.dK [])) := ⟨h, same_new h _, [], upd_same, .inl ⟨rfl, rfl⟩⟩
theorem AccP.step {H0 H H' : Hp} {p : Addr} {L : Bool → List Int} {k : Nat} (a : AccP K H0 p L k H) (s : Same H H') : AccP K H0 p L k H' := by
  obtain ⟨kvs, e, h⟩ := a.ex
  refine ⟨a.free, a.same.trans s, kvs, s _ _ e, ?_⟩
  rcases h with h | ⟨h, wl, h1, h2⟩ | ⟨h, wl, bl, h1, h2, h3⟩
  · exact .inl h
  · exact .inr (.inl ⟨h, wl, h1, h2.stay s.tups⟩)
  · exact .inr (.inr ⟨h, wl, bl, h1, h2.stay s.tups, h3.stay s.tups⟩)
theorem AccP.fin {H0 H : Hp} {p l : Addr} {L : Bool → List Int} {k : Nat} {sd : Bool} {N : Hp → Prop} (a : AccP K H0 p L k H) (hk : (k = 0 ∧ sd = true) ∨ (k = 1 ∧ sd = false)) (hl : SqN K H l ((L sd).map V.int))
    (h : ∀ H', AccP K H0 p L (k + 1) H' → N H') : ∃ kvs kk, V.str (sideS sd) = kV kk ∧ H p = some (.dK kvs) ∧ kvs.length < sizeLine ∧ N (upd H p (.dK (putK kvs kk (.ref l)))) := by
  obtain ⟨kvs, e, x⟩ := a.ex
  refine ⟨kvs, Sum.inr (sideS sd), rfl, e, ?_⟩
  rcases hk with ⟨rfl, rfl⟩ | ⟨rfl, rfl⟩
  · rcases x with ⟨_, rfl⟩ | ⟨z, _⟩ | ⟨z, _⟩
    · exact ⟨by decide, h _ ⟨a.free, same_own a.same a.free _, _, upd_same, .inr (.inl ⟨rfl, l, rfl, hl.stay (tups_dk e _)⟩)⟩⟩
    · omega
    · omega
  · rcases x with ⟨z, _⟩ | ⟨_, wl, rfl, h1⟩ | ⟨z, _⟩
    · omega
    · exact ⟨by show 1 < sizeLine; decide, h _ ⟨a.free, same_own a.same a.free _, _, upd_same, .inr (.inr ⟨rfl, wl, l, rfl, h1.stay (tups_dk e _), hl.stay (tups_dk e _)⟩)⟩⟩
    · omega
theorem AccP.part {H0 H : Hp} {p : Addr} {L : Bool → List Int} (a : AccP K H0 p L 2 H) : PartV K H p L := by
  obtain ⟨kvs, e, x⟩ := a.ex
  rcases x with ⟨z, _⟩ | ⟨z, _⟩ | ⟨_, wl, bl, rfl, h1, h2⟩
  · omega
  · omega
  · exact ⟨wl, bl, e, h1, h2⟩
theorem side_of {k : Nat} {x : V} (h : [V.str "white", V.str "black"][k]? = some x) : ∃ sd, x = .str (sideS sd) ∧ ((k = 0 ∧ sd = true) ∨ (k = 1 ∧ sd = false)) := by
  match k with
  | 0 => simp at h; subst h; exact ⟨true, rfl, .inl ⟨rfl, rfl⟩⟩
  | 1 => simp at h; subst h; exact ⟨false, rfl, .inr ⟨rfl, rfl⟩⟩
  | k + 2 => simp at h
def spInputs (K : PySem.W.Frag) : Sp := fun vs H Q _ => ∃ (a : Addr) (sd : Bool) (n : Nat) (cols : List (List Int)) (ws bs : List Int), vs = [.ref a, .str (sideS sd)] ∧ NetV K H a n cols ws bs ∧ ∀ l : Addr, SqT K H l ((if sd then ws else bs).map V.int) → Q (.ref l) H
theorem ok_inputs {f : Addr} {fd : FuncData} (F : Fun K "inputs_of" "inputs_of" sinputs_of f fd) : FnOk P w K mg base CX0 1 f fd ["network", "side"] (spInputs K) := by
  have sc : FnScope ["network", "side"] ["network", "side"] (defScope sinputs_of) := ⟨rfl, rfl, rfl, by decide +kernel, rfl, by decide +kernel, by decide +kernel⟩
  refine F.ok sc (fun vs H Q E h => ?_) (fun cdv A outer s H vs Q E hr h => ?_)
  · obtain ⟨_, _, _, _, _, _, rfl, _⟩ := h
    rfl
  obtain ⟨a, sd, n, cols, ws, bs, rfl, ⟨la, wa, ba, cs, h1, h2, h3, h4, h5, h6⟩, k⟩ := h
  refine ⟨_, (pss_one (ps_ret (pe_ifExp (pt_cmpR op_eqs (pv 1) pe_str (nomark _)) (pe_ix ix_tup (pv 0) pe_int (fun _ _ => rfl)) (pe_ix ix_tup (pv 0) pe_int (fun _ _ => rfl))))), ?_⟩
  try dsimp only [cxOf]
  w_fin
  cases sd with
  | true =>
    refine st_y rfl ?_
    w_fin
    exact k wa h4
  | false =>
    refine st_n (by decide) ?_
    w_fin
    exact k ba h5
def spKinds (K : PySem.W.Frag) (C : Addr) : Sp := fun vs H Q E => ∃ (M : Addr → Prop) (x : V) (d : PyData), vs = [x] ∧ Dn M K H x d ∧ WordOk d ∧ ((isNetD 4 4 d = false ∧ ∀ H', Same H H' → E (.ref C) none H') ∨
  (∃ (a : Addr) (n : Nat) (cols : List (List Int)) (ws bs : List Int), x = .ref a ∧ isNetD 4 4 d = true ∧ NetV K H a n cols ws bs ∧ Net n cols ws bs ∧
    ∀ (p wl bl : Addr) (H' : Hp), Same H H' → SqT K H' p [.ref wl, .ref bl] → SqN K H' wl ((kinL n cols ws bs (2 * n) true).map V.int) → SqN K H' bl ((kinL n cols ws bs (2 * n) false).map V.int) → Q (.ref p) H'))
set_option maxHeartbeats 1000000 in
theorem ok_kinds {C aS : Addr} {f : Addr} {fd : FuncData} (B : Blt mg) (hSIDES : mg "SIDES" = some (.ref aS)) (zS : SidesT K aS) (gcheck_plain : Has P w K mg base (L2.CX P w) 5 "check_plain" ["network"] (spPlain K C)) (gends_of : Has P w K mg base CX0 1 "ends_of" ["network"] (spEnds K))
    (ginputs_of : Has P w K mg base CX0 1 "inputs_of" ["network", "side"] (spInputs K)) (g_numbered0 : Has P w K mg base CX0 1 "_numbered" ["signs"] (spNum0 K)) (g_numberedT : Has P w K mg base CX0 1 "_numbered" ["signs"] (spNumT K))
    (g_signs : Has P w K mg base CX0 2 "_signs" ["parted", "ends", "side"] (spSigns K)) (g_count : Has P w K mg base CX0 1 "_count" ["parted"] (spCount K)) (F : Fun K "kinds" "kinds" skinds f fd) : FnOk P w K mg base (L2.CX P w) 6 f fd ["network"] (spKinds K C) := by
  have sc : FnScope ["network", "ends", "parted", "many", "side"] ["network"] (defScope skinds) := ⟨rfl, rfl, rfl, by decide +kernel, rfl, by decide +kernel, by decide +kernel⟩
  refine F.okX sc (fun vs H Q E h => ?_) (fun cdv A outer s H vs Q E hr h => ?_)
  · obtain ⟨_, _, _, rfl, _⟩ := h
    rfl
  obtain ⟨M, x, d, rfl, hd, hw, h⟩ := h
  refine ⟨_, (pss_cons (ps_expr (pcE gcheck_plain hr (takes_of rfl rfl rfl rfl) (pa_cons (pv 0) pa_nil)))
    (PSs.nox (pss_cons (ps_set (i := 1) sc.nd rfl (Or.inr rfl) (pc gends_of hr (pa_cons (pv 0) pa_nil)))
    (pss_cons (ps_set (i := 2) sc.nd rfl (Or.inr rfl) (pe_dc (own := [("side", 4)]) (g := gName 4) (tt := tYes) rfl sc.nd (pi_tup (pe_glob (v := V.ref _) rfl hSIDES rfl)) (blkOk_by (N := ["network", "ends", "parted", "many", "side"]) (sc := defScope skinds) (by decide +kernel)) (fun _ _ _ _ _ => pg_name (i := 4) sc.nd rfl (Or.inl rfl)) (fun _ _ _ _ _ => pts_nil) (fun _ _ _ _ _ => (pv 4)) (fun _ _ _ _ _ => (pc g_numbered0 hr (pa_cons (pc ginputs_of hr (pa_cons (pv 0) (pa_cons (pv 4) pa_nil))) pa_nil)))))
    (pss_cons (ps_set (i := 3) sc.nd rfl (Or.inl rfl) pe_int)
    (pss_cons (ps_while PassesOwn.never (pt_cmpR op_gt (pc g_count hr (pa_cons (pv 2) pa_nil)) (pv 3) (nomark _))
      (pss_cons (ps_set (i := 3) sc.nd rfl (Or.inl rfl) (pc g_count hr (pa_cons (pv 2) pa_nil)))
      (pss_one (ps_set (i := 2) sc.nd rfl (Or.inr rfl) (pe_dc (own := [("side", 4)]) (g := gName 4) (tt := tYes) rfl sc.nd (pi_tup (pe_glob (v := V.ref _) rfl hSIDES rfl)) (blkOk_by (N := ["network", "ends", "parted", "many", "side"]) (sc := defScope skinds) (by decide +kernel)) (fun _ _ _ _ _ => pg_name (i := 4) sc.nd rfl (Or.inl rfl)) (fun _ _ _ _ _ => pts_nil) (fun _ _ _ _ _ => (pv 4)) (fun _ _ _ _ _ => (pc g_numberedT hr (pa_cons (pc g_signs hr (pa_cons (pv 2) (pa_cons (pv 1) (pa_cons (pv 4) pa_nil)))) pa_nil))))))))
    (pss_one (ps_ret (pe_tupN (pa_cons (pe_dget (hu_of hr) (pv 2) pe_str (fun _ _ => rfl)) (pa_cons (pe_dget (hu_of hr) (pv 2) pe_str (fun _ _ => rfl)) pa_nil))))))))))), ?_⟩
  try dsimp only [cxOf]
  w_fin
  refine ⟨M, x, d, rfl, hd, hw, fun H1 s1 => ⟨fun ht => ?_, fun hf => ?_⟩⟩
  rotate_left
  · rcases h with ⟨_, z⟩ | ⟨a, n, cols, ws, bs, _, z, _⟩
    · exact z H1 s1
    · rw [z] at hf; cases hf
  rcases h with ⟨z, _⟩ | ⟨a, n, cols, ws, bs, rfl, _, hV, N, k⟩
  · rw [z] at ht; cases ht
  have few := N.few
  have n1 := N.pos
  have hV1 := hV.stay s1.tups
  w_fin
  refine ⟨a, n, cols, ws, bs, rfl, hV1, N, fun ed H2 s2 hE => ?_⟩
  have hV2 := hV1.stay s2.tups
  have sides : ∀ H', SqT K H' aS [.str "white", .str "black"] := fun H' => .inr zS
  w_fin
  refine st_srcT (sides H2) ?_
  intro dk hdk
  refine itt_walk (xs := [.str "white", .str "black"]) (fun i H' => AccP K H2 dk (kinL n cols ws bs 0) i H') (AccP.start hdk) (fun i H' _ _ => sides H') ?_ ?_
  · rintro i x H3 hi acc
    obtain ⟨sd, rfl, hsd⟩ := side_of hi
    have hV3 := hV2.stay acc.same.tups
    have wl : (if sd then ws else bs).length = n := by cases sd; exact N.bl; exact N.wl
    w_fin
    refine ⟨a, sd, n, cols, ws, bs, rfl, hV3, fun l hl => ?_⟩
    w_fin
    refine ⟨l, _, rfl, hl, by omega, fun p H4 s4 hp => ?_⟩
    rw [wl, kin_zero N sd] at hp
    exact (acc.step s4).fin hsd hp fun H' q => q
  intro H3 acc
  have hP := acc.part
  have hE3 := hE.stay acc.same
  w_fin
  refine ⟨fun m σ H' => ∃ (k pd : Nat) (pa : Addr) (sv : Option V), σ = [some (.ref a), some (.ref ed), some (.ref pa), some (.int (pd : Nat)), sv] ∧ PartV K H' pa (kinL n cols ws bs k) ∧ Same H3 H' ∧ ((k = 0 ∧ pd = 0) ∨ (1 ≤ k ∧ pd = cn n cols.length (inN ws bs) (nbN n cols) (k - 1))) ∧ m = 2 * n + 1 - pd,
    ⟨_, 0, 0, dk, none, rfl, hP, Same.refl _, .inl ⟨rfl, rfl⟩, rfl⟩, ?_⟩
  rintro m σ H4 ⟨kk, pd, pa, sv, rfl, hP4, s4, hk, rfl⟩
  have le2 := cn_le (n := n) (D := cols.length) (inp := inN ws bs) (nb := nbN n cols) (k := kk)
  w_fin
  refine ⟨pa, kk, n, cols, ws, bs, rfl, hP4, n1, few, ?_⟩
  w_fin
  refine st_two (fun c => ?_) (fun c => ?_)
  · refine ⟨_, fun σ' H' z => z, ?_⟩
    w_fin
    refine ⟨pa, kk, n, cols, ws, bs, rfl, hP4, n1, few, ?_⟩
    w_fin
    refine st_srcT (sides H4) ?_
    intro d2 hd2
    refine itt_walk (xs := [.str "white", .str "black"]) (fun i H' => AccP K H4 d2 (kinL n cols ws bs (kk + 1)) i H') (AccP.start hd2) (fun i H' _ _ => sides H') ?_ ?_
    · rintro i x H5 hi acc2
      obtain ⟨sd, rfl, hsd⟩ := side_of hi
      w_fin
      refine ⟨pa, ed, sd, kk, n, cols, ws, bs, rfl, hP4.stay acc2.same, (hE3.stay s4).stay acc2.same, N, fun l xs H6 s6 e6 l6 t6 => ?_⟩
      w_fin
      refine ⟨l, xs, _, n, rfl, e6, l6, few, t6, fun p H7 s7 hp => ?_⟩
      exact (acc2.step (s6.trans s7)).fin hsd hp fun H' q => q
    · intro H5 acc2
      w_fin
      exact ⟨2 * n + 1 - cn n cols.length (inN ws bs) (nbN n cols) kk, by omega, kk + 1, _, d2, _, rfl, acc2.part, s4.trans acc2.same, .inr ⟨by omega, rfl⟩, rfl⟩
  · have two := cn_two (n := n) (D := cols.length) (inp := inN ws bs) (nb := nbN n cols) (k := kk) n1
    have k1 : 1 ≤ kk := by rcases hk with ⟨_, z⟩ | ⟨z, _⟩ <;> omega
    have stop : cn n cols.length (inN ws bs) (nbN n cols) (kk - 1 + 1) ≤ cn n cols.length (inN ws bs) (nbN n cols) (kk - 1) := by
      rw [show kk - 1 + 1 = kk by omega]
      rcases hk with ⟨z, _⟩ | ⟨_, z⟩ <;> omega
    have same : ∀ sd, kinL n cols ws bs kk sd = kinL n cols ws bs (2 * n) sd := fun sd => labL_congr fun i hi => by
      have h := fun sd i hi => kin_same (n := n) (D := cols.length) (inp := inN ws bs) (nb := nbN n cols) stop (sd := sd) (i := i) hi
      have a := kin_ends n1 (nb_lt N) h (m := kk) (.inl (by omega)) (sd := sd) hi
      have b := kin_ends n1 (nb_lt N) h (m := 2 * n) (.inr (Nat.le_refl _)) (sd := sd) hi
      exact a.trans b.symm
    obtain ⟨wl, bl, h1, h2, h3⟩ := hP4
    rw [same] at h2 h3
    w_fin
    refine ⟨pa, .ref wl, rfl, .inl ⟨_, Sum.inr "white", .inl h1, rfl, rfl⟩, ?_⟩
    w_fin
    refine ⟨pa, .ref bl, rfl, .inl ⟨_, Sum.inr "black", .inl h1, rfl, rfl⟩, ?_⟩
    w_fin
    intro p H5 hp s5 e5
    exact k p wl bl H5 ((((s1.trans s2).trans acc.same).trans s4).trans s5) (SqT.of e5) (h2.stay s5.tups) (h3.stay s5.tups)
end
theorem idx_first : ∀ {c : List Int} {b : Int}, b ∈ c → c[c.idxOf b]? = some b ∧ ∀ (m : Nat) (z : Int), m < c.idxOf b → c[m]? = some z → z ≠ b
  | x :: c, b, h => by
    by_cases q : x = b
    · subst q
      rw [List.idxOf_cons_self]
      exact ⟨rfl, fun m z hm => absurd hm (Nat.not_lt_zero m)⟩
    · have hb : b ∈ c := by
        rcases List.mem_cons.mp h with r | r
        · exact absurd r.symm q
        · exact r
      obtain ⟨e, f⟩ := idx_first hb
      have ei : (x :: c).idxOf b = c.idxOf b + 1 := by
        rw [List.idxOf_cons, show (x == b) = false from beq_eq_false_iff_ne.mpr q]
        rfl
      rw [ei]
      refine ⟨e, fun m z hm hz => ?_⟩
      cases m with
      | zero =>
        rw [← Option.some.inj hz]
        exact q
      | succ m => exact f m z (by omega) hz
theorem index_at {K : PySem.W.Frag} {H : Hp} {l : Addr} {c : List Int} {b : Int} {Q : VK} (hb : b ∈ c) (hl : SqT K H l (c.map V.int)) (q : Q (.int ((c.idxOf b : Nat) : Int)) H) : rIndexT K (.ref l) [.int b] H Q := by
  obtain ⟨e, f⟩ := idx_first hb
  refine ⟨l, _, .int b, c.idxOf b, .int b, rfl, rfl, hl, rfl, flat_ints _, by rw [List.getElem?_map, e]; rfl, ?_, fun m z' hm hz => ?_, q⟩
  · show decide (b = b) = true
    exact decide_eq_true rfl
  · rw [List.getElem?_map, Option.map_eq_some_iff] at hz
    obtain ⟨z, hz, rfl⟩ := hz
    show decide (z = b) = false
    exact decide_eq_false (f m z hm hz)
section
variable (n : Nat) (cols : List (List Int)) (ws bs : List Int)
/-- how many kinds; the first node of a kind; what stands behind its edges; its number -/
def mK : Nat := cK n cols.length (inN ws bs) (nbN n cols) true
def fstN (sd : Bool) (c : Nat) : Nat := (kinL n cols ws bs (2 * n) sd).idxOf (c : Int)
def kS (sd : Bool) (i : Nat) : Nat := kin n cols.length (inN ws bs) (nbN n cols) (2 * n) sd i
def bCol (j : Nat) : List Int := (List.range (mK n cols ws bs)).map fun k => ((kS n cols ws bs false (nbN n cols j true (fstN n cols ws bs true k)) : Nat) : Int)
def bCols : List (List Int) := (List.range cols.length).map (bCol n cols ws bs)
def bIn (sd : Bool) : List Int := (List.range (mK n cols ws bs)).map fun k => inN ws bs sd (fstN n cols ws bs sd k)
end
section
variable {n : Nat} {cols : List (List Int)} {ws bs : List Int}
theorem mK_both (N : Net n cols ws bs) (D1 : 1 ≤ cols.length) (sd : Bool) : cK n cols.length (inN ws bs) (nbN n cols) sd = mK n cols ws bs := by
  cases sd with
  | true => rfl
  | false => exact (cK_same N.pos D1 (nb_lt N) (nb_inv N)).symm
theorem mK_pos (N : Net n cols ws bs) : 1 ≤ mK n cols ws bs := kF_pos N.pos
theorem mK_le : mK n cols ws bs ≤ n := kF_len n
theorem kS_lt (N : Net n cols ws bs) (D1 : 1 ≤ cols.length) {sd : Bool} {i : Nat} (hi : i < n) : kS n cols ws bs sd i < mK n cols ws bs := by
  rw [← mK_both N D1 sd]
  exact kin_lt hi
theorem kS_onto (N : Net n cols ws bs) (D1 : 1 ≤ cols.length) {sd : Bool} {c : Nat} (h : c < mK n cols ws bs) : ∃ i, i < n ∧ kS n cols ws bs sd i = c := kin_onto (by rw [mK_both N D1 sd]; exact h)
theorem kinL_mem (N : Net n cols ws bs) (D1 : 1 ≤ cols.length) {sd : Bool} {c : Nat} (h : c < mK n cols ws bs) : (c : Int) ∈ kinL n cols ws bs (2 * n) sd := by
  obtain ⟨i, hi, e⟩ := kS_onto N D1 (sd := sd) h
  exact List.mem_map.mpr ⟨i, List.mem_range.mpr hi, by rw [← e]; rfl⟩
theorem fst_at (N : Net n cols ws bs) (D1 : 1 ≤ cols.length) {sd : Bool} {c : Nat} (h : c < mK n cols ws bs) : fstN n cols ws bs sd c < n ∧ kS n cols ws bs sd (fstN n cols ws bs sd c) = c := by
  obtain ⟨e, _⟩ := idx_first (kinL_mem N D1 (sd := sd) h)
  have l : fstN n cols ws bs sd c < n := by
    have := (List.getElem?_eq_some_iff.mp e).1
    rw [kinL_len] at this
    exact this
  refine ⟨l, ?_⟩
  have e2 := kinL_at (cols := cols) (ws := ws) (bs := bs) (k := 2 * n) (sd := sd) l
  have := Option.some.inj (e2.symm.trans e)
  unfold kS
  omega
theorem bCol_len {j : Nat} : (bCol n cols ws bs j).length = mK n cols ws bs := by rw [bCol, List.length_map, List.length_range]
theorem bIn_len {sd : Bool} : (bIn n cols ws bs sd).length = mK n cols ws bs := by rw [bIn, List.length_map, List.length_range]
theorem bCols_len : (bCols n cols ws bs).length = cols.length := by rw [bCols, List.length_map, List.length_range]
/-- nodes of a kind have kinds alike behind their edges -/
theorem kS_nb (N : Net n cols ws bs) {sd : Bool} {i j : Nat} (hi : i < n) (hj : j < n) (e : kS n cols ws bs sd i = kS n cols ws bs sd j) {c : Nat} (hc : c < cols.length) : kS n cols ws bs (!sd) (nbN n cols c sd i) = kS n cols ws bs (!sd) (nbN n cols c sd j) := st_nb N.pos (nb_lt N) hi hj e hc
theorem bCol_col (N : Net n cols ws bs) (D1 : 1 ≤ cols.length) {j : Nat} (hj : j < cols.length) : Col (mK n cols ws bs) (bCol n cols ws bs j) := by
  refine perm_subA (l := bCol n cols ws bs j) (m := rgn (mK n cols ws bs)) ?_ (fun z hz => ?_) (by rw [rgn_len, bCol_len]; exact Nat.le_refl _)
  · unfold bCol
    refine List.Pairwise.map _ (fun a b (h : a < mK n cols ws bs ∧ b < mK n cols ws bs ∧ a ≠ b) e => ?_) (List.Pairwise.imp_of_mem (fun {a b} ha hb h => ?_) (List.nodup_range (n := mK n cols ws bs)))
    · obtain ⟨ha, hb, ne⟩ := h
      obtain ⟨la, ea⟩ := fst_at N D1 (sd := true) ha
      obtain ⟨lb, eb⟩ := fst_at N D1 (sd := true) hb
      have e' : kS n cols ws bs false (nbN n cols j true (fstN n cols ws bs true a)) = kS n cols ws bs false (nbN n cols j true (fstN n cols ws bs true b)) := by omega
      have := kS_nb N (sd := false) (nb_lt N j true _ hj la) (nb_lt N j true _ hj lb) e' hj
      have ia := nb_inv N j true _ hj la
      have ib := nb_inv N j true _ hj lb
      rw [show (!true) = false from rfl] at ia ib
      rw [ia, ib] at this
      rw [show (!false) = true from rfl, ea, eb] at this
      exact ne this
    · exact ⟨List.mem_range.mp ha, List.mem_range.mp hb, h⟩
  · obtain ⟨k, hk, rfl⟩ := List.mem_map.mp hz
    obtain ⟨l, _⟩ := fst_at N D1 (sd := true) (List.mem_range.mp hk)
    have := kS_lt N D1 (sd := false) (nb_lt N j true _ hj l)
    exact mem_rgn.mpr ⟨by omega, by omega⟩
theorem inN_mem (N : Net n cols ws bs) {sd : Bool} {i : Nat} (hi : i < n) : inN ws bs sd i ∈ (if sd then ws else bs) := by
  have l : (if sd then ws else bs).length = n := by cases sd; exact N.bl; exact N.wl
  have hz := List.getElem?_eq_getElem (l := if sd then ws else bs) (i := i) (by rw [l]; exact hi)
  have e : inN ws bs sd i = (if sd then ws else bs)[i]'(by rw [l]; exact hi) := by
    unfold inN nfun atN
    simp only
    rw [show ((i : Int)).toNat = i by omega, hz]
    rfl
  rw [e]
  exact List.getElem_mem _
theorem base_net (N : Net n cols ws bs) (D1 : 1 ≤ cols.length) : Net (mK n cols ws bs) (bCols n cols ws bs) (bIn n cols ws bs true) (bIn n cols ws bs false) := by
  refine ⟨mK_pos N, Nat.le_trans mK_le N.few, fun c hc => ?_, by rw [bCols_len]; exact N.D4, bIn_len, bIn_len, fun z hz => ?_, fun z hz => ?_⟩
  · obtain ⟨j, hj, rfl⟩ := List.mem_map.mp hc
    exact bCol_col N D1 (List.mem_range.mp hj)
  · obtain ⟨k, hk, rfl⟩ := List.mem_map.mp hz
    exact N.wr _ (inN_mem N (sd := true) (fst_at N D1 (List.mem_range.mp hk)).1)
  · obtain ⟨k, hk, rfl⟩ := List.mem_map.mp hz
    exact N.br _ (inN_mem N (sd := false) (fst_at N D1 (List.mem_range.mp hk)).1)
end
section
variable {n : Nat} {cols : List (List Int)} {ws bs : List Int}
theorem bIn_at {sd : Bool} {k : Nat} (h : k < mK n cols ws bs) : inN (bIn n cols ws bs true) (bIn n cols ws bs false) sd k = inN ws bs sd (fstN n cols ws bs sd k) := by
  have e : (bIn n cols ws bs sd)[k]? = some (inN ws bs sd (fstN n cols ws bs sd k)) := by
    unfold bIn
    rw [List.getElem?_map, List.getElem?_range h]
    rfl
  have e2 : (if sd then bIn n cols ws bs true else bIn n cols ws bs false) = bIn n cols ws bs sd := by cases sd <;> rfl
  show atN (if sd then bIn n cols ws bs true else bIn n cols ws bs false) (k : Int) = _
  unfold atN
  rw [e2, show ((k : Int)).toNat = k by omega, e]
  rfl
theorem bCol_at {j k : Nat} (h : k < mK n cols ws bs) : (bCol n cols ws bs j)[k]? = some ((kS n cols ws bs false (nbN n cols j true (fstN n cols ws bs true k)) : Nat) : Int) := by
  unfold bCol
  rw [List.getElem?_map, List.getElem?_range h]
  rfl
theorem bCols_at {j : Nat} (h : j < cols.length) : (bCols n cols ws bs)[j]? = some (bCol n cols ws bs j) := by
  unfold bCols
  rw [List.getElem?_map, List.getElem?_range h]
  rfl
theorem base_inp (N : Net n cols ws bs) (D1 : 1 ≤ cols.length) (sd : Bool) (i : Nat) (hi : i < n) : inN (bIn n cols ws bs true) (bIn n cols ws bs false) sd (kS n cols ws bs sd i) = inN ws bs sd i := by
  have l := kS_lt N D1 (sd := sd) hi
  obtain ⟨f1, f2⟩ := fst_at N D1 (sd := sd) l
  rw [bIn_at l]
  exact st_inp f1 hi f2
theorem base_white (N : Net n cols ws bs) (D1 : 1 ≤ cols.length) {c : Nat} (hc : c < cols.length) {k : Nat} (hk : k < mK n cols ws bs) : nbN (mK n cols ws bs) (bCols n cols ws bs) c true k = kS n cols ws bs false (nbN n cols c true (fstN n cols ws bs true k)) := by
  have N2 := base_net N D1
  obtain ⟨c', h1, h2, _, _⟩ := nb_at N2 (sd := true) hk (by rw [bCols_len]; exact hc)
  have h1' : (bCols n cols ws bs)[c]? = some c' := h1
  rw [bCols_at hc] at h1'
  cases h1'
  rw [bCol_at hk] at h2
  have := Option.some.inj h2
  omega
theorem base_nbw (N : Net n cols ws bs) (D1 : 1 ≤ cols.length) {c : Nat} (hc : c < cols.length) {i : Nat} (hi : i < n) : nbN (mK n cols ws bs) (bCols n cols ws bs) c true (kS n cols ws bs true i) = kS n cols ws bs false (nbN n cols c true i) := by
  have l := kS_lt N D1 (sd := true) hi
  obtain ⟨f1, f2⟩ := fst_at N D1 (sd := true) l
  rw [base_white N D1 hc l]
  exact kS_nb N (sd := true) f1 hi f2 hc
theorem base_nb (N : Net n cols ws bs) (D1 : 1 ≤ cols.length) (c : Nat) (sd : Bool) (i : Nat) (hc : c < cols.length) (hi : i < n) : nbN (mK n cols ws bs) (bCols n cols ws bs) c sd (kS n cols ws bs sd i) = kS n cols ws bs (!sd) (nbN n cols c sd i) := by
  cases sd with
  | true => exact base_nbw N D1 hc hi
  | false =>
    have N2 := base_net N D1
    have hc2 : c < (bCols n cols ws bs).length := by rw [bCols_len]; exact hc
    have lz := nb_lt N c false i hc hi
    have lk := kS_lt N D1 (sd := true) lz
    have e1 := base_nbw N D1 hc lz
    have e2 : nbN n cols c true (nbN n cols c false i) = i := nb_inv N c false i hc hi
    rw [e2] at e1
    have e3 : nbN (mK n cols ws bs) (bCols n cols ws bs) c false (nbN (mK n cols ws bs) (bCols n cols ws bs) c true (kS n cols ws bs true (nbN n cols c false i))) = kS n cols ws bs true (nbN n cols c false i) := nb_inv N2 c true _ hc2 lk
    rw [e1] at e3
    exact e3
/-- the base's own kinds -/
theorem base_id (N : Net n cols ws bs) (D1 : 1 ≤ cols.length) {sd : Bool} {c : Nat} (hc : c < mK n cols ws bs) : kS (mK n cols ws bs) (bCols n cols ws bs) (bIn n cols ws bs true) (bIn n cols ws bs false) sd c = c := by
  have N2 := base_net N D1
  have := base_kin (n := n) (D := cols.length) (inp := inN ws bs) (nb := nbN n cols) (m := mK n cols ws bs) (inp' := inN (bIn n cols ws bs true) (bIn n cols ws bs false)) (nb' := nbN (mK n cols ws bs) (bCols n cols ws bs)) (mK_pos N) (nb_lt N) (fun c sd i hc hi => nb_lt N2 c sd i (by rw [bCols_len]; exact hc) hi)
    (fun sd i hi => kS_lt N D1 hi) (fun sd c hc => kS_onto N D1 hc) (fun sd i hi => base_inp N D1 sd i hi) (fun c sd i hc hi => base_nb N D1 c sd i hc hi) (sd := sd) hc
  unfold kS
  rw [bCols_len]
  exact this
theorem base_rgn (N : Net n cols ws bs) (D1 : 1 ≤ cols.length) (sd : Bool) : kinL (mK n cols ws bs) (bCols n cols ws bs) (bIn n cols ws bs true) (bIn n cols ws bs false) (2 * mK n cols ws bs) sd = rgn (mK n cols ws bs) := by
  unfold rgn
  refine List.map_congr_left fun i hi => ?_
  have := base_id N D1 (sd := sd) (List.mem_range.mp hi)
  unfold kS at this
  exact congrArg (fun z : Nat => (z : Int)) this
theorem base_m (N : Net n cols ws bs) (D1 : 1 ≤ cols.length) : mK (mK n cols ws bs) (bCols n cols ws bs) (bIn n cols ws bs true) (bIn n cols ws bs false) = mK n cols ws bs := by
  have key : ∀ i j, i < mK n cols ws bs → j < mK n cols ws bs → src (mK n cols ws bs) (bCols n cols ws bs).length (inN (bIn n cols ws bs true) (bIn n cols ws bs false)) (nbN (mK n cols ws bs) (bCols n cols ws bs)) (2 * mK n cols ws bs) true i = src (mK n cols ws bs) (bCols n cols ws bs).length (inN (bIn n cols ws bs true) (bIn n cols ws bs false)) (nbN (mK n cols ws bs) (bCols n cols ws bs)) (2 * mK n cols ws bs) true j → i = j := fun i j hi hj e => by
    have a := base_id N D1 (sd := true) hi
    have b := base_id N D1 (sd := true) hj
    have c := (lab_eq hi hj).mpr e
    unfold kS kin at a b
    omega
  exact (lab_id key (mK n cols ws bs) (Nat.le_refl _)).1
theorem rgn_idx {m c : Nat} (h : c < m) : (rgn m).idxOf (c : Int) = c := by
  have e : (rgn m)[c]? = some (c : Int) := by
    unfold rgn
    rw [List.getElem?_map, List.getElem?_range h]
    rfl
  have mem : (c : Int) ∈ rgn m := List.mem_of_getElem? e
  obtain ⟨e2, _⟩ := idx_first mem
  exact nodup_at (rgn_nodup m) e2 e
theorem base_fst (N : Net n cols ws bs) (D1 : 1 ≤ cols.length) {sd : Bool} {c : Nat} (hc : c < mK n cols ws bs) : fstN (mK n cols ws bs) (bCols n cols ws bs) (bIn n cols ws bs true) (bIn n cols ws bs false) sd c = c := by
  unfold fstN
  rw [base_rgn N D1 sd]
  exact rgn_idx hc
theorem base_cols (N : Net n cols ws bs) (D1 : 1 ≤ cols.length) : bCols (mK n cols ws bs) (bCols n cols ws bs) (bIn n cols ws bs true) (bIn n cols ws bs false) = bCols n cols ws bs := by
  have N2 := base_net N D1
  show (List.range (bCols n cols ws bs).length).map (bCol (mK n cols ws bs) (bCols n cols ws bs) (bIn n cols ws bs true) (bIn n cols ws bs false)) = (List.range cols.length).map (bCol n cols ws bs)
  rw [bCols_len]
  refine List.map_congr_left fun j hj => ?_
  have hj := List.mem_range.mp hj
  show (List.range (mK (mK n cols ws bs) (bCols n cols ws bs) (bIn n cols ws bs true) (bIn n cols ws bs false))).map _ = (List.range (mK n cols ws bs)).map _
  rw [base_m N D1]
  refine List.map_congr_left fun k hk => ?_
  have hk := List.mem_range.mp hk
  rw [base_fst N D1 hk, base_id N D1 (nb_lt N2 j true k (by rw [bCols_len]; exact hj) hk), base_white N D1 hj hk]
theorem base_in (N : Net n cols ws bs) (D1 : 1 ≤ cols.length) (sd : Bool) : bIn (mK n cols ws bs) (bCols n cols ws bs) (bIn n cols ws bs true) (bIn n cols ws bs false) sd = bIn n cols ws bs sd := by
  show (List.range (mK (mK n cols ws bs) (bCols n cols ws bs) (bIn n cols ws bs true) (bIn n cols ws bs false))).map _ = (List.range (mK n cols ws bs)).map _
  rw [base_m N D1]
  refine List.map_congr_left fun k hk => ?_
  have hk := List.mem_range.mp hk
  rw [base_fst N D1 hk, bIn_at hk]
end
section
variable {P : Program} {w : World} {K : PySem.W.Frag} {mg : Str → Option Value} {base : Heap}
def natV (ks : List Nat) : List V := ks.map fun k : Nat => V.int (k : Int)
def spInAt (K : PySem.W.Frag) : Sp := fun vs H Q _ => ∃ (a l : Addr) (ws : List Int) (ks : List Nat), vs = [.ref a, .ref l] ∧ SqT K H a (ws.map V.int) ∧ H l = some (.lst (natV ks)) ∧ ks.length ≤ 1000 ∧ (∀ k ∈ ks, k < ws.length) ∧ ∀ (p : Addr) (H' : Hp), Same H H' → SqT K H' p ((ks.map fun k : Nat => atN ws (k : Int)).map V.int) → Q (.ref p) H'
theorem ok_inat {f : Addr} {fd : FuncData} (B : Blt mg) (F : Fun K "_inputs_at" "_inputs_at" s_inputs_at f fd) : FnOk P w K mg base CX0 1 f fd ["inputs", "nodes"] (spInAt K) := by
  have sc : FnScope ["inputs", "nodes", "node"] ["inputs", "nodes"] (defScope s_inputs_at) := ⟨rfl, rfl, rfl, by decide +kernel, rfl, by decide +kernel, by decide +kernel⟩
  refine F.ok sc (fun vs H Q E h => ?_) (fun cdv A outer s H vs Q E hr h => ?_)
  · obtain ⟨_, _, _, _, rfl, _⟩ := h
    rfl
  obtain ⟨a, l, ws, ks, rfl, ha, hl, few, lt, k⟩ := h
  refine ⟨_, (pss_one (ps_ret (pe_callTy (show CallR _ _ (rTupN K) from call_tupN) (by rfl) B.tuple (by decide +kernel) (pa_cons (pe_lc (own := [("node", 2)]) (g := gName 2) (tt := tYes) rfl sc.nd (pi_list (pv 1)) (blkOk_by (N := ["inputs", "nodes", "node"]) (sc := defScope s_inputs_at) (by decide +kernel)) (fun _ _ _ _ _ => pg_name (i := 2) sc.nd rfl (Or.inl rfl)) (fun _ _ _ _ _ => pts_nil) (fun _ _ _ _ _ => (pe_ix (show IxR _ (rIxT K) from ix_tup) (pv 0) (pv 2) (fun _ _ => rfl)))) pa_nil)))), ?_⟩
  try dsimp only [cxOf]
  w_fin
  intro ql hql
  refine itl_walk (xs := natV ks) (fun i H' => AccI H ql ((ks.take i).map fun k : Nat => atN ws (k : Int)) H') (AccI.start hql) (fun i H' _ z => SqL.of (z.same _ _ hl)) ?_ ?_
  · rintro i y H1 hi acc
    unfold natV at hi
    rw [List.getElem?_map, Option.map_eq_some_iff] at hi
    obtain ⟨z, hz, rfl⟩ := hi
    have zl := lt z (List.mem_of_getElem? hz)
    have il := (List.getElem?_eq_some_iff.mp hz).1
    obtain ⟨y, hy, _, hat⟩ := at_int (ns := ws) (i := (z : Int)) (by omega) (by omega)
    w_fin
    refine st_ixT (acc.same.seqT ha) hat ?_
    refine acc.fin (by rw [List.length_map, List.length_take]; omega) fun H' a2 => ?_
    have e : atN ws (z : Int) = y := by
      unfold atN
      rw [hy]
      rfl
    rw [take_more hz, List.map_append]
    show AccI H ql (_ ++ [atN ws (z : Int)]) H'
    rw [e]
    exact a2
  · rintro H1 acc
    rw [show (natV ks).length = ks.length by unfold natV; rw [List.length_map], List.take_length] at acc
    have e1 := acc.ex
    w_fin
    intro p H2 _ s2 e2
    exact k p H2 (acc.same.trans s2) (SqT.of e2)
def fsts (n : Nat) (cols : List (List Int)) (ws bs : List Int) (sd : Bool) : List Nat := (List.range (mK n cols ws bs)).map (fstN n cols ws bs sd)
theorem fsts_V {n : Nat} {cols : List (List Int)} {ws bs : List Int} {sd : Bool} : ((List.range (mK n cols ws bs)).map fun k => ((fstN n cols ws bs sd k : Nat) : Int)).map V.int = natV (fsts n cols ws bs sd) := by
  unfold natV fsts
  rw [List.map_map, List.map_map]
  rfl
theorem fsts_len {n : Nat} {cols : List (List Int)} {ws bs : List Int} {sd : Bool} : (fsts n cols ws bs sd).length = mK n cols ws bs := by rw [fsts, List.length_map, List.length_range]
def spBaseOf (K : PySem.W.Frag) (C : Addr) : Sp := fun vs H Q E => ∃ (M : Addr → Prop) (x : V) (d : PyData), vs = [x] ∧ Dn M K H x d ∧ WordOk d ∧ ((isNetD 4 4 d = false ∧ ∀ H', Same H H' → E (.ref C) none H') ∨
  (∃ (a : Addr) (n : Nat) (cols : List (List Int)) (ws bs : List Int), x = .ref a ∧ isNetD 4 4 d = true ∧ NetV K H a n cols ws bs ∧ Net n cols ws bs ∧ 1 ≤ cols.length ∧
    ∀ (p : Addr) (H' : Hp), Same H H' → NetV K H' p (mK n cols ws bs) (bCols n cols ws bs) (bIn n cols ws bs true) (bIn n cols ws bs false) → Q (.ref p) H'))
set_option maxHeartbeats 2000000 in
theorem ok_baseof {C : Addr} {f : Addr} {fd : FuncData} (B : Blt mg) (gkinds : Has P w K mg base (L2.CX P w) 6 "kinds" ["network"] (spKinds K C)) (g_inputs_at : Has P w K mg base CX0 1 "_inputs_at" ["inputs", "nodes"] (spInAt K)) (F : Fun K "base_of" "base_of" sbase_of f fd) : FnOk P w K mg base (L2.CX P w) 7 f fd ["network"] (spBaseOf K C) := by
  have sc : FnScope ["network", "firsts", "others", "ways", "white", "black", "word", "_", "links", "kind", "column", "node"] ["network"] (defScope sbase_of) := ⟨rfl, rfl, rfl, by decide +kernel, rfl, by decide +kernel, by decide +kernel⟩
  refine F.okX sc (fun vs H Q E h => ?_) (fun cdv A outer s H vs Q E hr h => ?_)
  · obtain ⟨_, _, _, rfl, _⟩ := h
    rfl
  obtain ⟨M, x, d, rfl, hd, hw, h⟩ := h
  refine ⟨_, (pss_cons (ps_asg (pcE gkinds hr (takes_of rfl rfl rfl rfl) (pa_cons (pv 0) pa_nil)) (pg_tup rfl (pgs_cons (pg_name (i := 4) sc.nd rfl (Or.inr rfl)) (pgs_cons (pg_name (i := 5) sc.nd rfl (Or.inr rfl)) pgs_nil))))
    (PSs.nox (pss_cons (ps_asg (pv 0) (pg_tup rfl (pgs_cons (pg_name (i := 6) sc.nd rfl (Or.inl rfl)) (pgs_cons (pg_name (i := 7) sc.nd rfl (Or.inl rfl)) (pgs_cons (pg_name (i := 8) sc.nd rfl (Or.inl rfl)) (pgs_cons (pg_name (i := 7) sc.nd rfl (Or.inl rfl)) (pgs_cons (pg_name (i := 7) sc.nd rfl (Or.inl rfl)) pgs_nil)))))))
    (pss_cons (ps_set (i := 1) sc.nd rfl (Or.inr rfl) (pe_lc (own := [("kind", 9)]) (g := gName 9) (tt := tYes) rfl sc.nd (pi_range1 (by rfl) B.range (pa_cons (pe_op op_add (pe_callB (show CallR _ _ (rMaxT K) from cr_maxT rfl hr.units) (by rfl) B.max (by decide +kernel) (pa_cons (pv 4) pa_nil)) pe_int) pa_nil)) (blkOk_by (N := ["network", "firsts", "others", "ways", "white", "black", "word", "_", "links", "kind", "column", "node"]) (sc := defScope sbase_of) (by decide +kernel)) (fun _ _ _ _ _ => pg_name (i := 9) sc.nd rfl (Or.inl rfl)) (fun _ _ _ _ _ => pts_nil) (fun _ _ _ _ _ => (pe_ixTK (K := K) (by rfl) (pv 4) (pa_cons (pv 9) pa_nil)))))
    (pss_cons (ps_setLc (i := 2) (own := [("kind", 9)]) (g := gName 9) (tt := tYes) rfl sc.nd rfl rfl (sw_true rfl rfl rfl (by decide +kernel)) (pi_range1 (by rfl) B.range (pa_cons (pe_op op_add (pe_callB (show CallR _ _ (rMaxT K) from cr_maxT rfl hr.units) (by rfl) B.max (by decide +kernel) (pa_cons (pv 5) pa_nil)) pe_int) pa_nil)) (blkOk_by (N := ["network", "firsts", "others", "ways", "white", "black", "word", "_", "links", "kind", "column", "node"]) (sc := defScope sbase_of) (by decide +kernel)) (fun _ _ _ _ _ => pg_name (i := 9) sc.nd rfl (Or.inl rfl)) (fun _ _ _ _ _ => pts_nil) (fun _ _ _ _ _ => (pe_ixTK (K := K) (by rfl) (pv 5) (pa_cons (pv 9) pa_nil))))
    (pss_cons (ps_set (i := 3) sc.nd rfl (Or.inl rfl) (pe_callTy (show CallR _ _ (rTupF K) from call_tupF) (by rfl) B.tuple (by decide +kernel) (pa_cons (pe_lc (own := [("column", 10)]) (g := gName 10) (tt := tYes) rfl sc.nd (pi_tup (pv 8)) (blkOk_by (N := ["network", "firsts", "others", "ways", "white", "black", "word", "_", "links", "kind", "column", "node"]) (sc := defScope sbase_of) (by decide +kernel)) (fun _ _ _ _ _ => pg_name (i := 10) sc.nd rfl (Or.inr rfl)) (fun _ _ _ _ _ => pts_nil) (fun _ _ _ _ _ => (pe_callTy (show CallR _ _ (rTupF K) from call_tupF) (by rfl) B.tuple (by decide +kernel) (pa_cons (pe_lc (own := [("node", 11)]) (wi := iList K _) (g := gName 11) (tt := tYes) rfl sc.nd (pi_list (pv 1)) (blkOk_by (N := ["network", "firsts", "others", "ways", "white", "black", "word", "_", "links", "kind", "column", "node"]) (sc := _) (by first | rfl | with_unfolding_all rfl)) (fun _ _ _ _ _ => pg_name (i := 11) sc.nd rfl (Or.inl rfl)) (fun _ _ _ _ _ => pts_nil) (fun _ _ _ _ _ => (pe_ix (show IxR _ (rIxT K) from ix_tup) (pv 5) (pe_ix (show IxR _ (rIxT K) from ix_tup) (pv 10) (pv 11) (fun _ _ => rfl)) (fun _ _ => rfl)))) pa_nil)))) pa_nil)))
    (pss_one (ps_ret (pe_tupN (pa_cons (pv 6) (pa_cons (pe_callB call_len_seq (by rfl) B.len (by decide +kernel) (pa_cons (pv 1) pa_nil)) (pa_cons (pv 3) (pa_cons (pc g_inputs_at hr (pa_cons (pe_ix ix_tup (pv 0) pe_int (fun _ _ => rfl)) (pa_cons (pv 1) pa_nil))) (pa_cons (pc g_inputs_at hr (pa_cons (pe_ix ix_tup (pv 0) pe_int (fun _ _ => rfl)) (pa_cons (pv 2) pa_nil))) pa_nil)))))))))))))), ?_⟩
  try dsimp only [cxOf]
  w_fin
  rcases h with ⟨hf, hE⟩ | ⟨a, n, cols, ws, bs, rfl, ht, hV, N, D1, k⟩
  · exact ⟨M, x, d, rfl, hd, hw, .inl ⟨hf, hE⟩⟩
  refine ⟨M, .ref a, d, rfl, hd, hw, .inr ⟨a, n, cols, ws, bs, rfl, ht, hV, N, fun p wl bl H1 s1 hp hwl hbl => ?_⟩⟩
  have few := N.few
  have n1 := N.pos
  have D4 := N.D4
  have ml := mK_le (n := n) (cols := cols) (ws := ws) (bs := bs)
  have mp := mK_pos N
  obtain ⟨la, wa, ba, cs, h1, h2, h3, h4, h5, h6⟩ := id (hV.stay s1.tups)
  w_fin
  refine st_gtup hp rfl ?_
  w_fin
  refine st_gtup h1 rfl ?_
  w_fin
  refine ⟨wl, _, rfl, hwl.1, by rw [kinL_len]; omega, fun m1 hm1 hx1 => ?_⟩
  have e1 : m1 + 1 = ((mK n cols ws bs : Nat) : Int) := kin_max n1 hm1 hx1
  w_fin
  rw [e1]
  w_fin
  intro fl hfl
  refine itr_walk (lo := 0) (n := ((mK n cols ws bs : Nat) : Int).toNat) (fun i H' => AccI H1 fl (((List.range (mK n cols ws bs)).take i).map fun k => ((fstN n cols ws bs true k : Nat) : Int)) H') (AccI.start hfl) ?_ ?_
  · rintro i H2 hi acc
    have hi : i < mK n cols ws bs := by omega
    have hb2 := (hwl).stay ((Same.refl H1).trans acc.same).tups
    w_fin
    refine ⟨⟨_, rfl, hb2.2⟩, ?_⟩
    w_fin
    rw [Int.zero_add]
    refine index_at (kinL_mem N D1 (sd := true) hi) hb2.1 ?_
    refine acc.fin (by rw [List.length_map, List.length_take, List.length_range]; omega) fun H' a2 => ?_
    rw [take_more (List.getElem?_range hi), List.map_append]
    exact a2
  rintro Hf accf
  rw [List.take_of_length_le (by rw [List.length_range]; omega)] at accf
  have ef := accf.ex
  have hbl2 := hbl.stay accf.same.tups
  have hbl21 := hbl2.1
  w_fin
  refine ⟨bl, _, rfl, hbl21, by rw [kinL_len]; omega, fun m2 hm2 hx2 => ?_⟩
  have e2 : m2 + 1 = ((mK n cols ws bs : Nat) : Int) := by rw [← mK_both N D1 false]; exact kin_max n1 hm2 hx2
  w_fin
  rw [e2]
  w_fin
  intro ol hol
  refine itr_walk (lo := 0) (n := ((mK n cols ws bs : Nat) : Int).toNat) (fun i H' => AccI Hf ol (((List.range (mK n cols ws bs)).take i).map fun k => ((fstN n cols ws bs false k : Nat) : Int)) H') (AccI.start hol) ?_ ?_
  · rintro i H2 hi acc
    have hi : i < mK n cols ws bs := by omega
    have hb2 := (hbl).stay (accf.same.trans acc.same).tups
    w_fin
    refine ⟨⟨_, rfl, hb2.2⟩, ?_⟩
    w_fin
    rw [Int.zero_add]
    refine index_at (kinL_mem N D1 (sd := false) hi) hb2.1 ?_
    refine acc.fin (by rw [List.length_map, List.length_take, List.length_range]; omega) fun H' a2 => ?_
    rw [take_more (List.getElem?_range hi), List.map_append]
    exact a2
  rintro Ho acco
  rw [List.take_of_length_le (by rw [List.length_range]; omega)] at acco
  have eo := acco.ex
  have sfo := accf.same.trans acco.same
  have ef2 := acco.same _ _ ef
  have hla := sfo.seqT h2
  rw [fsts_V] at ef2 eo
  w_fin
  intro wy hwy
  refine itt_walk (xs := cs) (fun j H' => GN K (fun _ => False) Ho wy ((bCols n cols ws bs).take j) H') (GN.start hwy) (fun j H' _ z => z.go.seqT hla) ?_ ?_
  · rintro j y H2 hj acc
    obtain ⟨ca, c, rfl, hc, hcS⟩ := h3.of hj
    have jD : j < cols.length := (List.getElem?_eq_some_iff.mp hc).1
    have s2 := go_same acc.go
    have so2 := sfo.trans s2
    w_fin
    refine ⟨fl, rfl, ⟨_, SqL.of (s2 _ _ ef2)⟩, ?_⟩
    intro ql hql
    refine itl_walk (xs := natV (fsts n cols ws bs true)) (fun k H' => AccI H2 ql ((bCol n cols ws bs j).take k) H') (AccI.start hql) (fun k H' _ z => SqL.of (z.same _ _ (s2 _ _ ef2))) ?_ ?_
    · rintro k y H3 hk a2
      unfold natV fsts at hk
      rw [List.map_map, List.getElem?_map, Option.map_eq_some_iff] at hk
      obtain ⟨k', hk', rfl⟩ := hk
      have km : k < mK n cols ws bs := by
        have := (List.getElem?_eq_some_iff.mp hk').1
        rwa [List.length_range] at this
      rw [List.getElem?_range km] at hk'
      cases hk'
      obtain ⟨fl1, fl2⟩ := fst_at N D1 (sd := true) km
      obtain ⟨c', hc', hz, lt, _⟩ := nb_at N (sd := true) fl1 jD
      have e' : c' = c := by
        have : cols[j]? = some c' := hc'
        rw [hc] at this
        exact (Option.some.inj this).symm
      subst e'
      have so3 := so2.trans a2.same
      w_fin
      refine st_ixT (so3.seqT hcS) (at_of (j := fstN n cols ws bs true k) (v := .int ((nbN n cols j true (fstN n cols ws bs true k) : Nat) : Int)) (by omega) (by rw [List.getElem?_map, hz]; rfl)) ?_
      w_fin
      refine st_ixT (so3.seqT hbl.1) (at_of (j := nbN n cols j true (fstN n cols ws bs true k)) (v := .int ((kS n cols ws bs false (nbN n cols j true (fstN n cols ws bs true k)) : Nat) : Int)) (by omega) (by rw [List.getElem?_map, kinL_at lt]; rfl)) ?_
      refine a2.fin (by rw [List.length_take, bCol_len]; omega) fun H' a => ?_
      rw [take_more (bCol_at km)]
      exact a
    · intro H3 a2
      rw [show (natV (fsts n cols ws bs true)).length = mK n cols ws bs by unfold natV; rw [List.length_map, fsts_len], List.take_of_length_le (by rw [bCol_len]; omega)] at a2
      have e3 := a2.ex
      w_fin
      intro tp H4 _ s4 htp hnd
      obtain ⟨ac, e, f, a3⟩ := (acc.step (M := fun _ => False) (fun z => z) (a2.same.trans s4).go).push (c := bCol n cols ws bs j) ⟨htp, hnd⟩ (by rw [List.length_take, bCols_len]; omega)
      refine ⟨ac, e, f, ?_⟩
      rw [take_more (bCols_at jD)]
      exact a3
  rintro Hw accw
  rw [List.take_of_length_le (by rw [bCols_len]; have := h3.len; omega)] at accw
  obtain ⟨lxs, ew, hls⟩ := accw.ex
  have sw := go_same accw.go
  w_fin
  intro wt Hx _ sx hwt hwtn
  have sox := sw.trans sx
  have efx := sox _ _ ef2
  have s1x := sfo.trans sox
  have h1x := s1x.seqT h1
  w_fin
  rw [show (natV (fsts n cols ws bs true)).length = mK n cols ws bs by unfold natV; rw [List.length_map, fsts_len]]
  w_fin
  refine ⟨wa, fl, ws, fsts n cols ws bs true, rfl, s1x.seqT h4, efx, by rw [fsts_len]; omega, fun z hz => ?_, fun p1 Hy sy hp1 => ?_⟩
  · obtain ⟨k, hk, rfl⟩ := List.mem_map.mp hz
    rw [N.wl]
    exact (fst_at N D1 (sd := true) (List.mem_range.mp hk)).1
  have h1y := sy.seqT h1x
  w_fin
  refine ⟨ba, ol, bs, fsts n cols ws bs false, rfl, (s1x.trans sy).seqT h5, (sox.trans sy) _ _ eo, by rw [fsts_len]; omega, fun z hz => ?_, fun p2 Hz sz hp2 => ?_⟩
  · obtain ⟨k, hk, rfl⟩ := List.mem_map.mp hz
    rw [N.bl]
    exact (fst_at N D1 (sd := false) (List.mem_range.mp hk)).1
  w_fin
  intro pr Hr _ sr hpr
  have eb : ∀ sd, (fsts n cols ws bs sd).map (fun k : Nat => atN (if sd then ws else bs) (k : Int)) = bIn n cols ws bs sd := fun sd => by
    unfold fsts bIn
    rw [List.map_map]
    rfl
  have ebw := eb true
  have ebb := eb false
  simp only [if_true, Bool.false_eq_true, if_false] at ebw ebb
  rw [ebw] at hp1
  rw [ebb] at hp2
  have syr := (sy.trans sz).trans sr
  have hl := hls.imp fun _ _ z => SqN.stay (sx.trans syr).tups z
  exact k pr Hr ((s1.trans s1x).trans syr) ⟨wt, p1, p2, lxs, SqT.of hpr, syr.seqT hwt, hl.imp fun _ _ z => z.1, (sz.trans sr).seqT hp1, sr.seqT hp2, hl⟩
end
/-- what has its depth, and no dict and no strange text -/
def Shp (m : Nat) (d : PyData) : Prop := d.canLay0 = true ∧ d.depth ≤ m
theorem Shp.shaped {m : Nat} {d : PyData} (h : Shp m d) (hm : m ≤ 64) : SeqAt.shaped d = true := by
  unfold SeqAt.shaped
  rw [h.1, decide_eq_true (Nat.le_trans h.2 hm)]
  rfl
theorem Shp.more {m k : Nat} {d : PyData} (h : Shp m d) (hk : m ≤ k) : Shp k d := ⟨h.1, Nat.le_trans h.2 hk⟩
theorem shp_all {m : Nat} : ∀ {ds : List PyData}, (∀ d ∈ ds, Shp m d) → PyData.canLayAll0 ds = true ∧ PyData.depthAll ds ≤ m
  | [], _ => ⟨by simp [PyData.canLayAll0], by simp [PyData.depthAll]⟩
  | d :: ds, h => by
    have a := h d List.mem_cons_self
    have b := shp_all fun x hx => h x (List.mem_cons_of_mem _ hx)
    refine ⟨?_, ?_⟩
    · simp only [PyData.canLayAll0, a.1, b.1, Bool.and_self]
    · have := a.2
      have := b.2
      simp only [PyData.depthAll]
      omega
theorem shp_tup {m : Nat} {ds : List PyData} (h : ∀ d ∈ ds, Shp m d) : Shp (m + 1) (.tuple ds) := by
  have a := shp_all h
  refine ⟨?_, ?_⟩
  · simp only [PyData.canLay0]
    exact a.1
  · have := a.2
    simp only [PyData.depth]
    omega
theorem shp_lst {m : Nat} {ds : List PyData} (h : ∀ d ∈ ds, Shp m d) : Shp (m + 1) (.list ds) := by
  have a := shp_all h
  refine ⟨?_, ?_⟩
  · simp only [PyData.canLay0]
    exact a.1
  · have := a.2
    simp only [PyData.depth]
    omega
theorem shp_int {m : Nat} (i : Int) : Shp m (.int i) := ⟨by simp [PyData.canLay0], by simp [PyData.depth]⟩
theorem shp_non {m : Nat} : Shp m .none := ⟨by simp [PyData.canLay0], by simp [PyData.depth]⟩
theorem shp_bool {m : Nat} (b : Bool) : Shp m (.bool b) := ⟨by simp [PyData.canLay0], by simp [PyData.depth]⟩
theorem shp_ints (l : List Int) : ∀ d ∈ l.map PyData.int, Shp 0 d := fun d hd => by
  obtain ⟨i, _, rfl⟩ := List.mem_map.mp hd
  exact shp_int i
theorem gview_sim {α β : Type} {f : α → Int} {nx : Int → α → α} {g : β → Int} {ny : Int → β → β} {D : Nat} (R : α → β → Prop) (hf : ∀ s t, R s t → f s = g t) (hn : ∀ (j : Nat) s t, j < D → R s t → R (nx (1 + (j : Int)) s) (ny (1 + (j : Int)) t)) :
    ∀ (T : Nat) (s : α) (t : β) (b : Int), R s t → gview f nx D T s b = gview g ny D T t b
  | 0, s, t, b, r => by
    show PyData.tuple [.int (f s)] = .tuple [.int (g t)]
    rw [hf s t r]
  | T + 1, s, t, b, r => by
    rw [gview_succ, gview_succ, hf s t r]
    have e : gparts f nx D T s b = gparts g ny D T t b := by
      unfold gparts
      refine List.map_congr_left fun j hj => ?_
      have jD := List.mem_range.mp hj
      by_cases q : 1 + (j : Int) = b
      · rw [if_pos q, if_pos q]
      · rw [if_neg q, if_neg q, gview_sim R hf hn T _ _ _ (hn j s t jD r)]
    rw [e]
theorem pl_ints (r : List Int) (h : r.length ≤ 1000) : Pl (tupI r) := .tup (fun d hd => by
  obtain ⟨z, _, rfl⟩ := List.mem_map.mp hd
  exact .int _) (by rw [List.length_map]; exact h)
theorem pl_net {n : Nat} {cols : List (List Int)} {ws bs : List Int} (N : Net n cols ws bs) : Pl (netD n cols ws bs) := by
  have few := N.few
  refine .tup (fun d hd => ?_) (by simp)
  simp only [List.mem_cons, List.not_mem_nil, or_false] at hd
  rcases hd with rfl | rfl | rfl | rfl | rfl
  · exact .word _ (by decide +kernel)
  · exact .int _
  · refine .tup (fun d hd => ?_) (by rw [List.length_map]; have := N.D4; omega)
    obtain ⟨c, hc, rfl⟩ := List.mem_map.mp hd
    exact pl_ints c (by rw [(N.col c hc).len]; exact few)
  · exact pl_ints _ (by rw [N.wl]; exact few)
  · exact pl_ints _ (by rw [N.bl]; exact few)
theorem shp_view {α : Type} {f : α → Int} {nx : Int → α → α} {D : Nat} : ∀ (T : Nat) (s : α) (b : Int), Shp (2 * T + 1) (gview f nx D T s b)
  | 0, s, b => shp_tup fun d hd => by rw [List.mem_singleton.mp hd]; exact shp_int _
  | T + 1, s, b => (shp_tup (m := 2 * T + 2) fun d hd => by
      simp only [List.mem_cons, List.not_mem_nil, or_false] at hd
      rcases hd with rfl | rfl
      · exact shp_int _
      · refine shp_tup (m := 2 * T + 1) fun d hd => ?_
        obtain ⟨j, _, rfl⟩ := List.mem_map.mp hd
        show Shp _ (if 1 + (j : Int) = b then .none else gview f nx D T (nx (1 + (j : Int)) s) (1 + (j : Int)))
        split
        · exact shp_non
        · exact shp_view T _ _).more (by omega)
section
variable {P : Program} {w : World} {K : PySem.W.Frag} {mg : Str → Option Value} {base : Heap}
/-- data that stand for keys -/
structure Marks (ds : List PyData) (f : Nat → List Int) (n : Nat) : Prop where
  len : ds.length = n
  shp : ∀ i, i < n → Shp 4 (ds.getD i .none)
  eqv : ∀ i j, i < n → j < n → PyData.eqv (ds.getD i .none) (ds.getD j .none) = decide (f i = f j)
theorem getD_get {α : Type} {l : List α} {i : Nat} {x d : α} (h : l[i]? = some x) : l.getD i d = x := by rw [List.getD_eq_getElem?_getD, h]; rfl
def spCounted (K : PySem.W.Frag) : Sp := fun vs H Q _ => ∃ (a : Addr) (xs : List V) (ds : List PyData) (f : Nat → List Int) (n : Nat), vs = [.ref a] ∧ H a = some (.lst xs) ∧ DtAll K H xs ds ∧ Marks ds f n ∧ n ≤ 1000 ∧ ∀ (p : Addr) (H' : Hp), H p = none → Same H H' → H' p = some (.lst ((labL f n).map V.int)) → Q (.ref p) H'
set_option maxHeartbeats 1000000 in
theorem ok_counted {f : Addr} {fd : FuncData} (B : Blt mg) (F : Fun K "_law_counted" "_law_counted" s_law_counted f fd) : FnOk P w K mg base CX0 1 f fd ["marks"] (spCounted K) := by
  have sc : FnScope ["marks", "known", "mark"] ["marks"] (defScope s_law_counted) := ⟨rfl, rfl, rfl, by decide +kernel, rfl, by decide +kernel, by decide +kernel⟩
  refine F.ok sc (fun vs H Q E h => ?_) (fun cdv A outer s H vs Q E hr h => ?_)
  · obtain ⟨_, _, _, _, _, rfl, _⟩ := h
    rfl
  obtain ⟨a, xs, ds, g, n, rfl, ha, hd, M, few, k⟩ := h
  refine ⟨_, (pss_cons (ps_set (i := 1) sc.nd rfl (Or.inr rfl) (pe_lstN pa_nil))
    (pss_cons (ps_for PassesOwn.never rfl (pi_list (pv 0)) (pg_name (i := 2) sc.nd rfl (Or.inl rfl))
      (pss_one (ps_if (pt_cmpR (show OpR _ _ (rNotInD K) from op_notInD hr.units2) (pv 2) (pv 1) (by with_unfolding_all rfl))
        (pss_one (ps_expr (pe_bm PySem.F.plainAttrs_list PySem.F.slot_list_append PySem.F.type_list_append mt_append (pv 1) (pa_cons (pv 2) pa_nil))))
        pss_nil)))
    (pss_one (ps_ret (pe_lc (own := [("mark", 2)]) (g := gName 2) (tt := tYes) rfl sc.nd (pi_list (pv 0)) (blkOk_by (N := ["marks", "known", "mark"]) (sc := defScope s_law_counted) (by decide +kernel)) (fun _ _ _ _ _ => pg_name (i := 2) sc.nd rfl (Or.inl rfl)) (fun _ _ _ _ _ => pts_nil) (fun _ _ _ _ _ => (show PE _ _ (tBM K "list" (rIndexD K) (tVar 1) (tCons (tVar 2) tNil)) from pe_bm PySem.F.plainAttrs_list PySem.F.slot_list_index PySem.F.type_list_index (mt_indexD hr.units2) (pv 1) (pa_cons (pv 2) pa_nil)))))))), ?_⟩
  try dsimp only [cxOf]
  have lxs : xs.length = n := by rw [hd.len]; exact M.len
  w_fin
  intro kl H1 fkl s1 ekl
  have ha1 := s1 _ _ ha
  have anykF : ∀ (idx : List Nat) (i : Nat), i < n → (∀ j ∈ idx, j < n) → ((idx.map fun j => ds.getD j .none).any fun z => PyData.eqv z (ds.getD i .none)) = decide (g i ∈ idx.map g) := fun idx i hi hx => by
    rw [List.any_map]
    by_cases q : g i ∈ idx.map g
    · rw [decide_eq_true q, List.any_eq_true]
      obtain ⟨j, hj, e⟩ := List.mem_map.mp q
      exact ⟨j, hj, by show PyData.eqv (ds.getD j .none) (ds.getD i .none) = true; rw [M.eqv j i (hx j hj) hi, decide_eq_true e]⟩
    · rw [decide_eq_false q, List.any_eq_false]
      intro j hj
      show ¬ PyData.eqv (ds.getD j .none) (ds.getD i .none) = true
      rw [M.eqv j i (hx j hj) hi, decide_eq_false (fun e => q (List.mem_map.mpr ⟨j, hj, e⟩))]
      exact Bool.false_ne_true
  have shl : ∀ (idx : List Nat), (∀ j ∈ idx, j < n) → SeqAt.shaped (.list (idx.map fun j => ds.getD j .none)) = true := fun idx hx => (shp_lst (m := 4) fun d hd => by
    obtain ⟨j, hj, rfl⟩ := List.mem_map.mp hd
    exact M.shp j (hx j hj)).shaped (by decide)
  have dat : ∀ {H' : Hp} {i : Nat} {x : V}, Same H H' → xs[i]? = some x → i < n ∧ Dt K H' x (ds.getD i .none) := fun s hx => by
    obtain ⟨d, hd1, hd2⟩ := hd.of hx
    refine ⟨by rw [← lxs]; exact (List.getElem?_eq_some_iff.mp hx).1, ?_⟩
    rw [getD_get hd1]
    exact hd2.stay s.tups
  w_fin
  refine fr_list (xs := xs) (fun i σ H' => ∃ (idx : List Nat) (vs : List V) (mv : Option V), σ = [some (.ref a), some (.ref kl), mv] ∧ Same H H' ∧ H' kl = some (.lst vs) ∧ DtAll K H' vs (idx.map fun j => ds.getD j .none) ∧ idx.map g = kF g i ∧ ∀ j ∈ idx, j < n)
    ⟨[], [], none, rfl, s1, ekl, .nil, rfl, fun j hj => by cases hj⟩ (fun i σ H' _ z => by
      obtain ⟨_, _, _, _, s, _⟩ := z
      exact SqL.of (s _ _ ha)) ?_ ?_
  · rintro i x σ H2 hi ⟨idx, vs, mv, rfl, s2, e2, d2, hk, hx⟩
    obtain ⟨il, dx⟩ := dat s2 hi
    w_fin
    refine ⟨_, _, dx.dp, .lst (SqL.of e2) d2.dp, (M.shp i il).shaped (by decide), shl idx hx, ?_⟩
    rw [anykF idx i il hx, hk]
    w_fin
    refine st_ntwo (fun c => ?_) (fun c => ?_)
    · w_fin
      have lvs : vs.length = idx.length := by rw [d2.len, List.length_map]
      have lid : idx.length ≤ i := by
        have := congrArg List.length hk
        rw [List.length_map] at this
        rw [this]
        exact kF_len i
      refine st_app e2 (lt_small (by omega)) ?_
      have t := (Go.put (M := (· = kl)) (ys := vs ++ [x]) rfl e2).tups
      refine ⟨idx ++ [i], vs ++ [x], _, rfl, same_own s2 fkl _, upd_same, ?_, ?_, fun j hj => ?_⟩
      · rw [List.map_append]
        exact (d2.stay t).app (.cons (dx.stay t) .nil)
      · rw [List.map_append, hk, show kF g (i + 1) = if g i ∈ kF g i then kF g i else kF g i ++ [g i] from rfl, if_neg c]
        rfl
      · rcases List.mem_append.mp hj with q | q
        · exact hx j q
        · rw [List.mem_singleton.mp q]
          exact il
    · w_fin
      exact ⟨idx, vs, _, rfl, s2, e2, d2, by rw [hk, show kF g (i + 1) = if g i ∈ kF g i then kF g i else kF g i ++ [g i] from rfl, if_pos c], hx⟩
  · rintro σ H2 ⟨idx, vs, mv, rfl, s2, e2, d2, hk, hx⟩
    rw [lxs] at hk
    have ha2 := s2 _ _ ha
    w_fin
    intro ql hql
    have nq : ql ≠ kl := (ne_of_none e2 hql).symm
    refine itl_walk (xs := xs) (fun i H' => AccI H2 ql ((labL g n).take i) H') (AccI.start hql) (fun i H' _ z => SqL.of (z.same _ _ ha2)) ?_ ?_
    · rintro i x H3 hi acc
      have s3 := acc.same
      obtain ⟨il, dx⟩ := dat (s2.trans s3) hi
      w_fin
      have hlab := lab_get (f := g) il
      rw [← hk, List.getElem?_map, Option.map_eq_some_iff] at hlab
      obtain ⟨j, hj, ej⟩ := hlab
      have jn := hx j (List.mem_of_getElem? hj)
      refine ⟨.inl ⟨rfl, _, SqL.of (s3 _ _ e2)⟩, ?_⟩
      w_fin
      refine ⟨kl, x, _, _, lab g n i, ds.getD j .none, rfl, rfl, .lst (SqL.of (s3 _ _ e2)) (d2.stay s3.tups).dp, dx.dp, shl idx hx, (M.shp i il).shaped (by decide), by rw [List.getElem?_map, hj]; rfl, by rw [M.eqv j i jn il, decide_eq_true ej], fun m z hm hz => ?_, ?_⟩
      · rw [List.getElem?_map, Option.map_eq_some_iff] at hz
        obtain ⟨j2, hj2, rfl⟩ := hz
        rw [M.eqv j2 i (hx j2 (List.mem_of_getElem? hj2)) il]
        refine decide_eq_false fun e => ?_
        have a1 : (kF g n)[m]? = some (g i) := by rw [← hk, List.getElem?_map, hj2]; exact congrArg some e
        have := nodup_at (kF_nodup n) a1 (lab_get il)
        omega
      · refine acc.fin (by rw [List.length_take, labL_len]; omega) fun H' a => ?_
        rw [take_more (labL_at il)]
        exact a
    · rintro H3 acc
      rw [lxs, List.take_of_length_le (by rw [labL_len]; omega)] at acc
      exact k ql H3 (none_back s2 hql) (s2.trans acc.same) acc.ex
end
theorem eqv_int (a b : Int) : PyData.eqv (.int a) (.int b) = decide (a = b) := by
  simp only [PyData.eqv]
  rfl
theorem eqv_mark (z y : Int) (r q : List Int) : PyData.eqv (.tuple [.int z, tupI r]) (.tuple [.int y, tupI q]) = decide (z :: r = y :: q) := by
  have e : PyData.eqv (.tuple [.int z, tupI r]) (.tuple [.int y, tupI q]) = (PyData.eqv (.int z) (.int y) && (PyData.eqv (tupI r) (tupI q) && true)) := by
    simp only [PyData.eqv, PyData.eqvAll]
  rw [e, eqv_i, eqv_int, Bool.and_true]
  by_cases a : z = y
  · by_cases b : r = q
    · rw [decide_eq_true a, decide_eq_true b, decide_eq_true (by rw [a, b])]
      rfl
    · rw [decide_eq_false b, decide_eq_false (fun z => b (List.cons.inj z).2), Bool.and_false]
  · rw [decide_eq_false a, decide_eq_false (fun z => a (List.cons.inj z).1), Bool.false_and]
def markD (r : List Int) : PyData := .tuple [.int (r.headD 0), tupI r.tail]
theorem marks_zero {ns : List Int} : Marks (ns.map PyData.int) (fun i => [atN ns i]) ns.length := by
  have g : ∀ i, i < ns.length → (ns.map PyData.int).getD i .none = .int (atN ns i) := fun i hi => by
    obtain ⟨z, hz, _, _⟩ := at_int (ns := ns) (i := (i : Int)) (by omega) (by omega)
    rw [show ((i : Int)).toNat = i by omega] at hz
    rw [getD_get (x := .int z) (by rw [List.getElem?_map, hz]; rfl)]
    unfold atN
    rw [show ((i : Int)).toNat = i by omega, hz]
    rfl
  refine ⟨by rw [List.length_map], fun i hi => by rw [g i hi]; exact shp_int _, fun i j hi hj => ?_⟩
  rw [g i hi, g j hj, eqv_int]
  exact decide_eq_decide.mpr ⟨fun e => by rw [e], fun e => (List.cons.inj e).1⟩
theorem marks_more {f : Nat → List Int} {n : Nat} (ne : ∀ i, i < n → f i ≠ []) : Marks ((List.range n).map fun i => markD (f i)) f n := by
  have g : ∀ i, i < n → ((List.range n).map fun i => markD (f i)).getD i .none = markD (f i) := fun i hi => getD_get (by rw [List.getElem?_map, List.getElem?_range hi]; rfl)
  refine ⟨by rw [List.length_map, List.length_range], fun i hi => ?_, fun i j hi hj => ?_⟩
  · rw [g i hi]
    refine shp_tup (m := 3) fun d hd => ?_
    simp only [List.mem_cons, List.not_mem_nil, or_false] at hd
    rcases hd with rfl | rfl
    · exact shp_int _
    · exact (shp_tup (shp_ints _)).more (by omega)
  · rw [g i hi, g j hj]
    unfold markD
    rw [eqv_mark]
    obtain ⟨z, r, e1⟩ := List.exists_cons_of_ne_nil (ne i hi)
    obtain ⟨y, q, e2⟩ := List.exists_cons_of_ne_nil (ne j hj)
    rw [e1, e2]
    rfl
section
variable {P : Program} {w : World} {K : PySem.W.Frag} {mg : Str → Option Value} {base : Heap}
def spLKinds (K : PySem.W.Frag) : Sp := fun vs H Q _ => ∃ (a : Addr) (n : Nat) (cols : List (List Int)) (ws bs : List Int), vs = [.ref a] ∧ NetV K H a n cols ws bs ∧ Net n cols ws bs ∧
  ∀ (p wl bl : Addr) (H' : Hp), Same H H' → SqT K H' p [.ref wl, .ref bl] → SqN K H' wl ((kinL n cols ws bs (2 * n) true).map V.int) → SqN K H' bl ((kinL n cols ws bs (2 * n) false).map V.int) → Q (.ref p) H'
set_option maxHeartbeats 2000000 in
theorem ok_lkinds {f : Addr} {fd : FuncData} (B : Blt mg) (g_law_behind : Has P w K mg base CX0 1 "_law_behind" ["network", "side", "node", "colour"] (spBehindI K)) (g_law_counted : Has P w K mg base CX0 1 "_law_counted" ["marks"] (spCounted K)) (F : Fun K "_law_kinds" "_law_kinds" s_law_kinds f fd) : FnOk P w K mg base CX0 2 f fd ["network"] (spLKinds K) := by
  have sc : FnScope ["network", "sides", "turn", "finer", "side", "marks", "node", "near", "c"] ["network"] (defScope s_law_kinds) := ⟨rfl, rfl, rfl, by decide +kernel, rfl, by decide +kernel, by decide +kernel⟩
  refine F.ok sc (fun vs H Q E h => ?_) (fun cdv A outer s H vs Q E hr h => ?_)
  · obtain ⟨_, _, _, _, _, rfl, _⟩ := h
    rfl
  obtain ⟨a, n, cols, ws, bs, rfl, hV, N, kk⟩ := h
  refine ⟨_, (pss_cons (ps_set (i := 1) sc.nd rfl (Or.inr rfl) (pe_lstN (pa_cons (pc g_law_counted hr (pa_cons (pe_callTy (show CallR _ _ (rListN K) from call_listN) (by rfl) B.list (by decide +kernel) (pa_cons (pe_ix ix_tup (pv 0) pe_int (fun _ _ => rfl)) pa_nil)) pa_nil)) (pa_cons (pc g_law_counted hr (pa_cons (pe_callTy (show CallR _ _ (rListN K) from call_listN) (by rfl) B.list (by decide +kernel) (pa_cons (pe_ix ix_tup (pv 0) pe_int (fun _ _ => rfl)) pa_nil)) pa_nil)) pa_nil))))
    (pss_cons (ps_for PassesOwn.never rfl (pi_range1 (by rfl) B.range (pa_cons (pe_op op_mul pe_int (pe_ix ix_tup (pv 0) pe_int (fun _ _ => rfl))) pa_nil)) (pg_name (i := 2) sc.nd rfl (Or.inl rfl))
      (pss_cons (ps_set (i := 3) sc.nd rfl (Or.inl rfl) (pe_lstN pa_nil))
      (pss_cons (ps_for PassesOwn.never rfl (pi_range1 (by rfl) B.range (pa_cons pe_int pa_nil)) (pg_name (i := 4) sc.nd rfl (Or.inr rfl))
        (pss_cons (ps_set (i := 5) sc.nd rfl (Or.inl rfl) (pe_lstN pa_nil))
        (pss_cons (ps_for PassesOwn.never rfl (pi_range1 (by rfl) B.range (pa_cons (pe_ix ix_tup (pv 0) pe_int (fun _ _ => rfl)) pa_nil)) (pg_name (i := 6) sc.nd rfl (Or.inr rfl))
          (pss_cons (ps_setLc (i := 7) (own := [("c", 8)]) (g := gName 8) (tt := tYes) rfl sc.nd rfl rfl (sw_true rfl rfl rfl (by decide +kernel)) (pi_range1 (by rfl) B.range (pa_cons (pe_callB call_len_seq (by rfl) B.len (by decide +kernel) (pa_cons (pe_ix ix_tup (pv 0) pe_int (fun _ _ => rfl)) pa_nil)) pa_nil)) (blkOk_by (N := ["network", "sides", "turn", "finer", "side", "marks", "node", "near", "c"]) (sc := defScope s_law_kinds) (by decide +kernel)) (fun _ _ _ _ _ => pg_name (i := 8) sc.nd rfl (Or.inl rfl)) (fun _ _ _ _ _ => pts_nil) (fun _ _ _ _ _ => (pe_ix (show IxR _ (rIxL K) from ix_list) (pe_ix (show IxR _ (rIxL K) from ix_list) (pv 1) (pe_op op_sub pe_int (pv 4)) (fun _ _ => rfl)) (pc g_law_behind hr (pa_cons (pv 0) (pa_cons (pv 4) (pa_cons (pv 6) (pa_cons (pe_op op_add (pv 8) pe_int) pa_nil))))) (fun _ _ => rfl))))
          (pss_one (ps_expr (pe_bm PySem.F.plainAttrs_list PySem.F.slot_list_append PySem.F.type_list_append mt_append (pv 5) (pa_cons (pe_tupN (pa_cons (pe_ix ix_list (pe_ix ix_list (pv 1) (pv 4) (fun _ _ => rfl)) (pv 6) (fun _ _ => rfl)) (pa_cons (pe_callTy (show CallR _ _ (rTupF K) from call_tupF) (by rfl) B.tuple (by decide +kernel) (pa_cons (pv 7) pa_nil)) pa_nil))) pa_nil))))))
        (pss_one (ps_expr (pe_bm PySem.F.plainAttrs_list PySem.F.slot_list_append PySem.F.type_list_append mt_append (pv 3) (pa_cons (pc g_law_counted hr (pa_cons (pv 5) pa_nil)) pa_nil)))))))
      (pss_one (ps_set (i := 1) sc.nd rfl (Or.inr rfl) (pv 3))))))
    (pss_one (ps_ret (pe_tupN (pa_cons (pe_callTy (show CallR _ _ (rTupF K) from call_tupF) (by rfl) B.tuple (by decide +kernel) (pa_cons (pe_ix ix_list (pv 1) pe_int (fun _ _ => rfl)) pa_nil)) (pa_cons (pe_callTy (show CallR _ _ (rTupF K) from call_tupF) (by rfl) B.tuple (by decide +kernel) (pa_cons (pe_ix ix_list (pv 1) pe_int (fun _ _ => rfl)) pa_nil)) pa_nil))))))), ?_⟩
  try dsimp only [cxOf]
  have few := N.few
  have n1 := N.pos
  have D4 := N.D4
  obtain ⟨la, wa, ba, cs, h1, h2, h3, h4, h5, h6⟩ := id hV
  have lcs : cs.length = cols.length := h3.len
  w_fin
  intro l1 H1 f1 s1 e1
  w_fin
  refine ⟨l1, _, ws.map PyData.int, _, _, rfl, e1, DtAll.ints ws, marks_zero, by rw [N.wl]; exact few, fun p1 H2 _ s2 ep1 => ?_⟩
  have h12 := (s1.trans s2).seqT h1
  have h52 := (s1.trans s2).seqT h5
  w_fin
  intro l2 H3 f3 s3 e3
  w_fin
  refine ⟨l2, _, bs.map PyData.int, _, _, rfl, e3, DtAll.ints bs, marks_zero, by rw [N.bl]; exact few, fun p2 H4 _ s4 ep2 => ?_⟩
  w_fin
  intro sl H5 _ s5 esl
  have s05 := (((s1.trans s2).trans s3).trans s4).trans s5
  have hV5 := hV.stay s05.tups
  have h15 := s05.seqT h1
  have ep1 : H5 p1 = some (.lst ((kinL n cols ws bs 0 true).map V.int)) := by rw [← kin_zero N true, ← N.wl]; exact ((s3.trans s4).trans s5) _ _ ep1
  have ep2 : H5 p2 = some (.lst ((kinL n cols ws bs 0 false).map V.int)) := by rw [← kin_zero N false, ← N.bl]; exact s5 _ _ ep2
  w_fin
  refine fr_range (fun k σ H' => ∃ (q w b : Addr) (tv fv sv mv nv xv : Option V), σ = [some (.ref a), some (.ref q), tv, fv, sv, mv, nv, xv, none] ∧ Same H5 H' ∧ H' q = some (.lst [.ref w, .ref b]) ∧ H' w = some (.lst ((kinL n cols ws bs k true).map V.int)) ∧ H' b = some (.lst ((kinL n cols ws bs k false).map V.int)))
    ⟨sl, p1, p2, none, none, none, none, none, none, rfl, Same.refl _, esl, ep1, ep2⟩ ?_ ?_
  · rintro k σ H6 hk ⟨q, w, b, tv, fv, sv, mv, nv, xv, rfl, s6, eq, ew, eb⟩
    have h16 := s6.seqT h15
    w_fin
    intro fl H7 ffl s7 efl
    w_fin
    refine fr_range (fun i σ H' => ∃ (vs : List V) (sv mv nv xv : Option V), σ = [some (.ref a), some (.ref q), some (.int (0 + (k : Int))), some (.ref fl), sv, mv, nv, xv, none] ∧ Same H6 H' ∧ H' fl = some (.lst vs) ∧ vs.length = i ∧ ∀ j, j < i → ∃ c, vs[j]? = some (.ref c) ∧ H' c = some (.lst ((kinL n cols ws bs (k + 1) (decide (j = 0))).map V.int)))
      ⟨[], _, _, _, _, rfl, s7, efl, rfl, fun j hj => absurd hj (Nat.not_lt_zero j)⟩ ?_ ?_
    · rintro i σ H8 hi ⟨vs, sv, mv, nv, xv, rfl, s8, ef8, lvs, hvs⟩
      obtain ⟨sd, hsd, hid⟩ : ∃ sd : Bool, (0 : Int) + (i : Int) = sdI sd ∧ decide (i = 0) = sd := by
        match i, hi with
        | 0, _ => exact ⟨true, rfl, rfl⟩
        | 1, _ => exact ⟨false, rfl, rfl⟩
      have s58 := s6.trans s8
      have h18 := s58.seqT h15
      have eq8 := s8 _ _ eq
      have own : ∃ c, atI [V.ref w, .ref b] (sdI sd) = some (.ref c) ∧ H8 c = some (.lst ((kinL n cols ws bs k sd).map V.int)) := by
        cases sd with
        | true => exact ⟨w, rfl, s8 _ _ ew⟩
        | false => exact ⟨b, rfl, s8 _ _ eb⟩
      have oth : ∃ c, atI [V.ref w, .ref b] (1 - sdI sd) = some (.ref c) ∧ H8 c = some (.lst ((kinL n cols ws bs k (!sd)).map V.int)) := by
        cases sd with
        | true => exact ⟨b, rfl, s8 _ _ eb⟩
        | false => exact ⟨w, rfl, s8 _ _ ew⟩
      obtain ⟨oa, hoa, eoa⟩ := own
      obtain ⟨ta, hta, eta⟩ := oth
      w_fin
      rw [hsd]
      w_fin
      intro ml H9 fml s9 eml
      have h19 := s9.seqT h18
      w_fin
      refine fr_range (fun j σ H' => ∃ (nv xv : Option V), σ = [some (.ref a), some (.ref q), some (.int (0 + (k : Int))), some (.ref fl), some (.int (sdI sd)), some (.ref ml), nv, xv, none] ∧ AccD K H8 ml (((List.range n).take j).map fun i => markD (src n cols.length (inN ws bs) (nbN n cols) (k + 1) sd i)) H')
        ⟨_, _, rfl, ⟨fml, s9, [], eml, .nil⟩⟩ ?_ ?_
      · rintro j σ H10 hj ⟨nv, xv, rfl, acc⟩
        have hj : j < n := by omega
        have s10 := acc.same
        have h110 := s10.seqT h18
        have h210 := (s58.trans s10).seqT (s05.seqT h2)
        w_fin
        rw [lcs]
        intro xl hxl
        refine itr_walk (lo := 0) (n := ((cols.length : Nat) : Int).toNat) (fun c H' => AccI H10 xl (((List.range cols.length).take c).map fun c => ((kin n cols.length (inN ws bs) (nbN n cols) k (!sd) (nbN n cols c sd j) : Nat) : Int)) H') (AccI.start hxl) ?_ ?_
        · rintro c H11 hc a2
          have hc : c < cols.length := by omega
          obtain ⟨_, _, _, lt, enx⟩ := nb_at N (sd := sd) hj hc
          have s11 := a2.same
          w_fin
          refine st_ixL (SqL.of ((s10.trans s11) _ _ eq8)) hta ?_
          w_fin
          refine ⟨a, sd, (0 + (j : Int)), c, n, cols, ws, bs, by rw [show (0 + (c : Int)) + 1 = 1 + (c : Int) by omega], (hV5.stay s58.tups).stay (s10.trans s11).tups, N, by omega, by omega, hc, ?_⟩
          rw [Int.zero_add, enx]
          refine st_ixL (SqL.of ((s10.trans s11) _ _ eta)) (at_of (j := nbN n cols c sd j) (v := .int ((kin n cols.length (inN ws bs) (nbN n cols) k (!sd) (nbN n cols c sd j) : Nat) : Int)) rfl (by rw [List.getElem?_map, kinL_at lt]; rfl)) ?_
          refine a2.fin (by rw [List.length_map, List.length_take]; omega) fun H' a3 => ?_
          rw [take_more (List.getElem?_range hc), List.map_append]
          exact a3
        · rintro H11 a2
          rw [List.take_of_length_le (by rw [List.length_range]; omega)] at a2
          have s11 := a2.same
          have e11 := a2.ex
          w_fin
          obtain ⟨mvs0, em0, dm0⟩ := (acc.step s11).ex
          refine ⟨.inl ⟨rfl, _, SqL.of em0⟩, ?_⟩
          w_fin
          refine st_ixL (SqL.of ((s10.trans s11) _ _ eq8)) hoa ?_
          w_fin
          refine st_ixL (SqL.of ((s10.trans s11) _ _ eoa)) (at_of (j := j) (v := .int ((kin n cols.length (inN ws bs) (nbN n cols) k sd j : Nat) : Int)) (by omega) (by rw [List.getElem?_map, kinL_at hj]; rfl)) ?_
          w_fin
          intro t1 H12 _ s12 et1 _
          w_fin
          intro t2 H13 _ s13 et2
          w_fin
          have a3 := acc.step ((s11.trans s12).trans s13)
          obtain ⟨ac, ea, la', a4⟩ := a3.push (v := .ref t2) (r := markD (src n cols.length (inN ws bs) (nbN n cols) (k + 1) sd j)) (.tup (SqT.of et2) (.cons (.int _) (.cons (.tup (s13.seqT et1) (DtAll.ints _)) .nil)))
          refine st_app ea (lt_small (by rw [la', List.length_map, List.length_take]; omega)) ?_
          refine ⟨_, _, rfl, ?_⟩
          rw [take_more (List.getElem?_range hj), List.map_append]
          exact a4
      · rintro σ H10 ⟨nv, xv, rfl, acc⟩
        rw [List.take_of_length_le (by rw [List.length_range]; omega)] at acc
        obtain ⟨mvs, em, dm⟩ := acc.ex
        w_fin
        refine ⟨.inl ⟨rfl, _, SqL.of (acc.same _ _ ef8)⟩, ?_⟩
        w_fin
        refine ⟨ml, mvs, _, src n cols.length (inN ws bs) (nbN n cols) (k + 1) sd, n, rfl, em, dm, marks_more (fun i _ => List.cons_ne_nil _ _), few, fun c H11 fc s11 ec => ?_⟩
        have s811 := acc.same.trans s11
        w_fin
        have ef11 := s811 _ _ ef8
        have nf : c ≠ fl := fun z => by rw [z, (acc.same _ _ ef8 : H10 fl = _)] at fc; cases fc
        refine st_app ef11 (lt_small (by omega)) ?_
        refine ⟨vs ++ [.ref c], _, _, _, _, rfl, same_own (s8.trans s811) ffl _, upd_same, by rw [List.length_append, lvs]; rfl, fun j hj => ?_⟩
        by_cases r : j = i
        · subst r
          refine ⟨c, by rw [List.getElem?_append_right (by omega), lvs, Nat.sub_self]; rfl, ?_⟩
          rw [upd_ne nf, hid]
          exact ec
        · obtain ⟨c', hc1, hc2⟩ := hvs j (by omega)
          have hc3 := s811 _ _ hc2
          refine ⟨c', by rw [List.getElem?_append_left (by omega)]; exact hc1, ?_⟩
          rw [upd_ne (fun z => ?_)]
          · exact hc3
          · rw [z, ef8] at hc2
            obtain ⟨c'', hc4, hc5⟩ := hvs j (by omega)
            have := Option.some.inj hc2
            injection this with this
            have h0 : vs[j]? = some (.ref c') := hc1
            rw [this] at h0
            have := List.mem_of_getElem? h0
            obtain ⟨_, _, ex⟩ := List.mem_map.mp this
            cases ex
    · rintro σ H8 ⟨vs, sv, mv, nv, xv, rfl, s8, ef8, lvs, hvs⟩
      w_fin
      obtain ⟨c0, hc0, e0⟩ := hvs 0 (by decide)
      obtain ⟨c1, hc1, e1'⟩ := hvs 1 (by decide)
      have ev : vs = [.ref c0, .ref c1] := by
        match vs, lvs, hc0, hc1 with
        | [x, y], _, hc0, hc1 =>
          cases hc0
          cases hc1
          rfl
      subst ev
      exact ⟨fl, c0, c1, _, _, _, _, _, _, rfl, s6.trans s8, ef8, e0, e1'⟩
  · rintro σ H6 ⟨q, w, b, tv, fv, sv, mv, nv, xv, rfl, s6, eq, ew, eb⟩
    rw [show ((2 : Int) * (n : Int)).toNat = 2 * n by omega] at ew eb
    w_fin
    intro t1 H7 _ s7 ht1 hn1
    have eq7 := s7 _ _ eq
    have eb7 := s7 _ _ eb
    w_fin
    intro t2 H8 _ s8 ht2 hn2
    w_fin
    intro p H9 _ s9 hp
    exact kk p t1 t2 H9 ((((s05.trans s6).trans s7).trans s8).trans s9) (SqT.of hp) (SqN.stay (s8.trans s9).tups ⟨ht1, hn1⟩) (SqN.stay s9.tups ⟨ht2, hn2⟩)
end
section
variable {n : Nat} {cols : List (List Int)} {ws bs : List Int}
/-- a kind is new where it comes first -/
theorem new_sum : ∀ t : Nat, t ≤ n → (((List.range n).map fun i => if decide (((kS n cols ws bs true i : Nat) : Int) ∈ (kinL n cols ws bs (2 * n) true).take i) = true then (0 : Int) else 1).take t).sum = (((kF (src n cols.length (inN ws bs) (nbN n cols) (2 * n) true) t).length : Nat) : Int)
  | 0, _ => rfl
  | t + 1, ht => by
    have ih := new_sum t (by omega)
    have e : ((List.range n).map fun i => if decide (((kS n cols ws bs true i : Nat) : Int) ∈ (kinL n cols ws bs (2 * n) true).take i) = true then (0 : Int) else 1)[t]? = some (if decide (((kS n cols ws bs true t : Nat) : Int) ∈ (kinL n cols ws bs (2 * n) true).take t) = true then (0 : Int) else 1) := by
      rw [List.getElem?_map, List.getElem?_range (by omega)]
      rfl
    rw [take_more e, List.sum_append, ih]
    have same : ((kS n cols ws bs true t : Nat) : Int) ∈ (kinL n cols ws bs (2 * n) true).take t ↔ src n cols.length (inN ws bs) (nbN n cols) (2 * n) true t ∈ kF (src n cols.length (inN ws bs) (nbN n cols) (2 * n) true) t := by
      rw [mem_kF]
      constructor
      · intro h
        obtain ⟨j, hj⟩ := List.getElem?_of_mem h
        have jt : j < t := by
          have := (List.getElem?_eq_some_iff.mp hj).1
          rw [List.length_take] at this
          omega
        rw [List.getElem?_take, if_pos jt, kinL_at (by omega)] at hj
        have := Option.some.inj hj
        refine ⟨j, jt, (lab_eq (t := n) (by omega) (by omega)).mp ?_⟩
        unfold kS kin at this
        omega
      · rintro ⟨j, hj, e⟩
        have := (lab_eq (t := n) (i := j) (j := t) (by omega) (by omega)).mpr e
        refine List.mem_of_getElem? (i := j) ?_
        rw [List.getElem?_take, if_pos hj, kinL_at (by omega)]
        unfold kS kin
        rw [this]
    rw [show kF (src n cols.length (inN ws bs) (nbN n cols) (2 * n) true) (t + 1) = if src n cols.length (inN ws bs) (nbN n cols) (2 * n) true t ∈ kF (src n cols.length (inN ws bs) (nbN n cols) (2 * n) true) t then kF (src n cols.length (inN ws bs) (nbN n cols) (2 * n) true) t else kF (src n cols.length (inN ws bs) (nbN n cols) (2 * n) true) t ++ [src n cols.length (inN ws bs) (nbN n cols) (2 * n) true t] from rfl]
    by_cases q : ((kS n cols ws bs true t : Nat) : Int) ∈ (kinL n cols ws bs (2 * n) true).take t
    · rw [if_pos (decide_eq_true q), if_pos (same.mp q)]
      simp
    · rw [if_neg (by rw [decide_eq_false q]; exact Bool.false_ne_true), if_neg fun z => q (same.mpr z), List.length_append]
      simp
end
section
variable {P : Program} {w : World} {K : PySem.W.Frag} {mg : Str → Option Value} {base : Heap}
def spLBase (K : PySem.W.Frag) : Sp := fun vs H Q _ => ∃ (a : Addr) (n : Nat) (cols : List (List Int)) (ws bs : List Int), vs = [.ref a] ∧ NetV K H a n cols ws bs ∧ Net n cols ws bs ∧ 1 ≤ cols.length ∧
  ∀ (p : Addr) (H' : Hp), Same H H' → NetV K H' p (mK n cols ws bs) (bCols n cols ws bs) (bIn n cols ws bs true) (bIn n cols ws bs false) → Q (.ref p) H'
set_option maxHeartbeats 2000000 in
theorem ok_lbase {f : Addr} {fd : FuncData} (B : Blt mg) (g_law_kinds : Has P w K mg base CX0 2 "_law_kinds" ["network"] (spLKinds K)) (F : Fun K "_law_base" "_law_base" s_law_base f fd) : FnOk P w K mg base CX0 3 f fd ["network"] (spLBase K) := by
  have sc : FnScope ["network", "many", "firsts", "links", "colour", "inputs", "white", "black", "kind", "at", "node"] ["network"] (defScope s_law_base) := ⟨rfl, rfl, rfl, by decide +kernel, rfl, by decide +kernel, by decide +kernel⟩
  refine F.ok sc (fun vs H Q E h => ?_) (fun cdv A outer s H vs Q E hr h => ?_)
  · obtain ⟨_, _, _, _, _, rfl, _⟩ := h
    rfl
  obtain ⟨a, n, cols, ws, bs, rfl, hV, N, D1, kk⟩ := h
  refine ⟨_, (pss_cons (ps_asg (pc g_law_kinds hr (pa_cons (pv 0) pa_nil)) (pg_tup rfl (pgs_cons (pg_name (i := 6) sc.nd rfl (Or.inr rfl)) (pgs_cons (pg_name (i := 7) sc.nd rfl (Or.inr rfl)) pgs_nil))))
    (pss_cons (ps_set (i := 1) sc.nd rfl (Or.inl rfl) (pe_callB (show CallR _ _ (rSum K) from cr_sum rfl) (by rfl) B.sum (by decide +kernel) (pa_cons (pe_lc (own := [("at", 9)]) (g := gName 9) (tt := tYes) rfl sc.nd (pi_range1 (by rfl) B.range (pa_cons (pe_callB call_len_seq (by rfl) B.len (by decide +kernel) (pa_cons (pv 6) pa_nil)) pa_nil)) (blkOk_by (N := ["network", "many", "firsts", "links", "colour", "inputs", "white", "black", "kind", "at", "node"]) (sc := defScope s_law_base) (by decide +kernel)) (fun _ _ _ _ _ => pg_name (i := 9) sc.nd rfl (Or.inl rfl)) (fun _ _ _ _ _ => pts_nil) (fun _ _ _ _ _ => (pe_callTy call_int1 (by rfl) B.int (by decide +kernel) (pa_cons (pe_cmpR (show OpR _ _ (rIn K true) from op_notIn_seq) (pe_ix (show IxR _ (rIxT K) from ix_tup) (pv 6) (pv 9) (fun _ _ => rfl)) (pe_slice (show SlR _ (LG.rCut K) from sl_cut) (pv 6) po_none (po_some (pv 9))) (by with_unfolding_all rfl)) pa_nil)))) pa_nil)))
    (pss_cons (ps_setLc (i := 2) (own := [("kind", 8)]) (g := gName 8) (tt := tYes) rfl sc.nd rfl rfl (sw_true rfl rfl rfl (by decide +kernel)) (pi_range1 (by rfl) B.range (pa_cons (pv 1) pa_nil)) (blkOk_by (N := ["network", "many", "firsts", "links", "colour", "inputs", "white", "black", "kind", "at", "node"]) (sc := defScope s_law_base) (by decide +kernel)) (fun _ _ _ _ _ => pg_name (i := 8) sc.nd rfl (Or.inl rfl)) (fun _ _ _ _ _ => pts_nil) (fun _ _ _ _ _ => (pe_ixTK (K := K) (by rfl) (pv 6) (pa_cons (pv 8) pa_nil))))
    (pss_cons (ps_set (i := 3) sc.nd rfl (Or.inl rfl) (pe_lstN pa_nil))
    (pss_cons (ps_for PassesOwn.never rfl (pi_tup (pe_ix ix_tup (pv 0) pe_int (fun _ _ => rfl))) (pg_name (i := 4) sc.nd rfl (Or.inr rfl))
      (pss_one (ps_expr (pe_bm PySem.F.plainAttrs_list PySem.F.slot_list_append PySem.F.type_list_append mt_append (pv 3) (pa_cons (pe_callTy (show CallR _ _ (rTupF K) from call_tupF) (by rfl) B.tuple (by decide +kernel) (pa_cons (pe_lc (own := [("node", 10)]) (g := gName 10) (tt := tYes) rfl sc.nd (pi_list (pv 2)) (blkOk_by (N := ["network", "many", "firsts", "links", "colour", "inputs", "white", "black", "kind", "at", "node"]) (sc := defScope s_law_base) (by decide +kernel)) (fun _ _ _ _ _ => pg_name (i := 10) sc.nd rfl (Or.inl rfl)) (fun _ _ _ _ _ => pts_nil) (fun _ _ _ _ _ => (pe_ix (show IxR _ (rIxT K) from ix_tup) (pv 7) (pe_ix (show IxR _ (rIxT K) from ix_tup) (pv 4) (pv 10) (fun _ _ => rfl)) (fun _ _ => rfl)))) pa_nil)) pa_nil)))))
    (pss_cons (ps_set (i := 5) sc.nd rfl (Or.inl rfl) (pe_callTy (show CallR _ _ (rTupF K) from call_tupF) (by rfl) B.tuple (by decide +kernel) (pa_cons (pe_lc (own := [("node", 10)]) (g := gName 10) (tt := tYes) rfl sc.nd (pi_list (pv 2)) (blkOk_by (N := ["network", "many", "firsts", "links", "colour", "inputs", "white", "black", "kind", "at", "node"]) (sc := defScope s_law_base) (by decide +kernel)) (fun _ _ _ _ _ => pg_name (i := 10) sc.nd rfl (Or.inl rfl)) (fun _ _ _ _ _ => pts_nil) (fun _ _ _ _ _ => (pe_ix (show IxR _ (rIxT K) from ix_tup) (pe_ix (show IxR _ (rIxT K) from ix_tup) (pv 0) pe_int (fun _ _ => rfl)) (pv 10) (fun _ _ => rfl)))) pa_nil)))
    (pss_one (ps_ret (pe_tupN (pa_cons pe_str (pa_cons (pv 1) (pa_cons (pe_callTy (show CallR _ _ (rTupF K) from call_tupF) (by rfl) B.tuple (by decide +kernel) (pa_cons (pv 3) pa_nil)) (pa_cons (pv 5) (pa_cons (pe_callTy (show CallR _ _ (rTupF K) from call_tupF) (by rfl) B.tuple (by decide +kernel) (pa_cons (pe_lc (own := [("kind", 8)]) (g := gName 8) (tt := tYes) rfl sc.nd (pi_range1 (by rfl) B.range (pa_cons (pv 1) pa_nil)) (blkOk_by (N := ["network", "many", "firsts", "links", "colour", "inputs", "white", "black", "kind", "at", "node"]) (sc := defScope s_law_base) (by decide +kernel)) (fun _ _ _ _ _ => pg_name (i := 8) sc.nd rfl (Or.inl rfl)) (fun _ _ _ _ _ => pts_nil) (fun _ _ _ _ _ => (pe_ix (show IxR _ (rIxT K) from ix_tup) (pe_ix (show IxR _ (rIxT K) from ix_tup) (pv 0) pe_int (fun _ _ => rfl)) (pe_ixTK (K := K) (by rfl) (pv 7) (pa_cons (pv 8) pa_nil)) (fun _ _ => rfl)))) pa_nil)) pa_nil)))))))))))))), ?_⟩
  try dsimp only [cxOf]
  have few := N.few
  have n1 := N.pos
  have D4 := N.D4
  have ml := mK_le (n := n) (cols := cols) (ws := ws) (bs := bs)
  have mp := mK_pos N
  w_fin
  refine ⟨a, n, cols, ws, bs, rfl, hV, N, fun p wl bl H1 s1 hp hwl hbl => ?_⟩
  obtain ⟨la, wa, ba, cs, h1, h2, h3, h4, h5, h6⟩ := id (hV.stay s1.tups)
  have hwl1 := hwl.1
  w_fin
  refine st_gtup hp rfl ?_
  w_fin
  rw [List.length_map, kinL_len]
  w_fin
  intro sl hsl
  refine itr_walk (lo := 0) (n := ((n : Nat) : Int).toNat) (fun i H' => AccI H1 sl (((List.range n).map fun i => if decide (((kS n cols ws bs true i : Nat) : Int) ∈ (kinL n cols ws bs (2 * n) true).take i) = true then (0 : Int) else 1).take i) H') (AccI.start hsl) ?_ ?_
  · rintro i H2 hi acc
    have hi : i < n := by omega
    have hw2 := acc.same.seqT hwl1
    w_fin
    refine st_ixT hw2 (at_of (j := i) (v := .int ((kS n cols ws bs true i : Nat) : Int)) (by omega) (by rw [List.getElem?_map, kinL_at hi]; rfl)) ?_
    w_fin
    intro p2 H3 s3 e3
    rw [Int.zero_add, cut_to, ← List.map_take] at e3
    refine ⟨p2, _, rfl, .inr e3, rfl, flat_ints _, ?_⟩
    rw [inV_int]
    w_fin
    have e : ((List.range n).map fun i => if decide (((kS n cols ws bs true i : Nat) : Int) ∈ (kinL n cols ws bs (2 * n) true).take i) = true then (0 : Int) else 1)[i]? = some (if decide (((kS n cols ws bs true i : Nat) : Int) ∈ (kinL n cols ws bs (2 * n) true).take i) = true then (0 : Int) else 1) := by
      rw [List.getElem?_map, List.getElem?_range hi]
      rfl
    refine (acc.step s3).fin (by rw [List.length_take, List.length_map, List.length_range]; omega) fun H' a2 => ?_
    rw [take_more e]
    cases c : decide (((kS n cols ws bs true i : Nat) : Int) ∈ (kinL n cols ws bs (2 * n) true).take i) with
    | true =>
      rw [c] at a2
      exact a2
    | false =>
      rw [c] at a2
      exact a2
  rintro H2 acc
  rw [Int.toNat_natCast] at acc
  have sum := new_sum (n := n) (cols := cols) (ws := ws) (bs := bs) n (Nat.le_refl _)
  have e2 := acc.ex
  have s2 := acc.same
  w_fin
  refine ⟨sl, _, rfl, SqL.of e2, ?_⟩
  rw [sum]
  have em : (((kF (src n cols.length (inN ws bs) (nbN n cols) (2 * n) true) n).length : Nat) : Int) = ((mK n cols ws bs : Nat) : Int) := rfl
  rw [em]
  w_fin
  intro fl hfl
  refine itr_walk (lo := 0) (n := ((mK n cols ws bs : Nat) : Int).toNat) (fun i H' => AccI H2 fl (((List.range (mK n cols ws bs)).take i).map fun k => ((fstN n cols ws bs true k : Nat) : Int)) H') (AccI.start hfl) ?_ ?_
  · rintro i H3 hi acc
    have hi : i < mK n cols ws bs := by omega
    have hb2 := hwl.stay (s2.trans acc.same).tups
    w_fin
    refine ⟨⟨_, rfl, hb2.2⟩, ?_⟩
    w_fin
    rw [Int.zero_add]
    refine index_at (kinL_mem N D1 (sd := true) hi) hb2.1 ?_
    refine acc.fin (by rw [List.length_map, List.length_take, List.length_range]; omega) fun H' a2 => ?_
    rw [take_more (List.getElem?_range hi), List.map_append]
    exact a2
  rintro H3 accf
  rw [List.take_of_length_le (by rw [List.length_range]; omega)] at accf
  have ef := accf.ex
  rw [fsts_V] at ef
  have s13 := s2.trans accf.same
  have lfs : (natV (fsts n cols ws bs true)).length = mK n cols ws bs := by unfold natV; rw [List.length_map, fsts_len]
  have fk : ∀ {k : Nat} {y : V}, (natV (fsts n cols ws bs true))[k]? = some y → k < mK n cols ws bs ∧ y = .int ((fstN n cols ws bs true k : Nat) : Int) := fun {k y} hk => by
    unfold natV fsts at hk
    rw [List.map_map, List.getElem?_map, Option.map_eq_some_iff] at hk
    obtain ⟨k', hk', rfl⟩ := hk
    have km : k < mK n cols ws bs := by
      have := (List.getElem?_eq_some_iff.mp hk').1
      rwa [List.length_range] at this
    rw [List.getElem?_range km] at hk'
    cases hk'
    exact ⟨km, rfl⟩
  w_fin
  intro ll H4 fll s4 ell
  have h14 := (s13.trans s4).seqT h1
  have hla := (s13.trans s4).seqT h2
  w_fin
  refine fr_tup (xs := cs) (fun j σ H' => ∃ (cv : Option V), σ = [some (.ref a), some (.int (mK n cols ws bs : Nat)), some (.ref fl), some (.ref ll), cv, none, some (.ref wl), some (.ref bl), none, none, none] ∧ GN K (fun _ => False) H3 ll ((bCols n cols ws bs).take j) H')
    ⟨none, rfl, ⟨fll, s4.go, [], ell, .nil⟩⟩ (fun j σ H' _ z => by
      obtain ⟨_, _, z⟩ := z
      exact z.go.seqT (s13.seqT h2)) ?_ ?_
  · rintro j y σ H5 hj ⟨cv, rfl, acc⟩
    obtain ⟨ca, c, rfl, hc, hcS⟩ := h3.of hj
    have jD : j < cols.length := (List.getElem?_eq_some_iff.mp hc).1
    have s5 := go_same acc.go
    obtain ⟨lxs0, el0, _⟩ := acc.ex
    have ef5 := s5 _ _ ef
    have s15 := s13.trans s5
    w_fin
    intro ql hql
    refine itl_walk (xs := natV (fsts n cols ws bs true)) (fun k H' => AccI H5 ql ((bCol n cols ws bs j).take k) H') (AccI.start hql) (fun k H' _ z => SqL.of (z.same _ _ ef5)) ?_ ?_
    · rintro k y H6 hk a2
      obtain ⟨km, rfl⟩ := fk hk
      obtain ⟨fl1, fl2⟩ := fst_at N D1 (sd := true) km
      obtain ⟨c', hc', hz, lt, _⟩ := nb_at N (sd := true) fl1 jD
      have e' : c' = c := by
        have : cols[j]? = some c' := hc'
        rw [hc] at this
        exact (Option.some.inj this).symm
      subst e'
      have so3 := s15.trans a2.same
      w_fin
      refine st_ixT (so3.seqT hcS) (at_of (j := fstN n cols ws bs true k) (v := .int ((nbN n cols j true (fstN n cols ws bs true k) : Nat) : Int)) (by omega) (by rw [List.getElem?_map, hz]; rfl)) ?_
      w_fin
      refine st_ixT (so3.seqT hbl.1) (at_of (j := nbN n cols j true (fstN n cols ws bs true k)) (v := .int ((kS n cols ws bs false (nbN n cols j true (fstN n cols ws bs true k)) : Nat) : Int)) (by omega) (by rw [List.getElem?_map, kinL_at lt]; rfl)) ?_
      refine a2.fin (by rw [List.length_take, bCol_len]; omega) fun H' a => ?_
      rw [take_more (bCol_at km)]
      exact a
    · intro H6 a2
      rw [lfs, List.take_of_length_le (by rw [bCol_len]; omega)] at a2
      have e6 := a2.ex
      w_fin
      intro tp H7 _ s7 htp hnd
      obtain ⟨ac, e, f, a3⟩ := (acc.step (M := fun _ => False) (fun z => z) (a2.same.trans s7).go).push (c := bCol n cols ws bs j) ⟨htp, hnd⟩ (by rw [List.length_take, bCols_len]; omega)
      w_fin
      refine st_app e f ?_
      refine ⟨_, rfl, ?_⟩
      rw [take_more (bCols_at jD)]
      exact a3
  rintro σ H5 ⟨cv, rfl, accw⟩
  rw [List.take_of_length_le (by rw [bCols_len]; have := h3.len; omega)] at accw
  obtain ⟨lxs, ew, hls⟩ := accw.ex
  have s5 := go_same accw.go
  have s15 := s13.trans s5
  have ef5 := s5 _ _ ef
  have bAt : ∀ {sd : Bool} {k : Nat}, k < mK n cols ws bs → (bIn n cols ws bs sd)[k]? = some (inN ws bs sd (fstN n cols ws bs sd k)) := fun {sd k} h => by
    unfold bIn
    rw [List.getElem?_map, List.getElem?_range h]
    rfl
  have inAt : ∀ {sd : Bool} {i : Nat}, i < n → (if sd then ws else bs)[i]? = some (inN ws bs sd i) := fun {sd i} hi => by
    have l : (if sd then ws else bs).length = n := by cases sd; exact N.bl; exact N.wl
    have hz := List.getElem?_eq_getElem (l := if sd then ws else bs) (i := i) (by rw [l]; exact hi)
    unfold inN nfun atN
    simp only
    rw [show ((i : Int)).toNat = i by omega, hz]
    rfl
  w_fin
  intro xl hxl
  refine itl_walk (xs := natV (fsts n cols ws bs true)) (fun k H' => AccI H5 xl ((bIn n cols ws bs true).take k) H') (AccI.start hxl) (fun k H' _ z => SqL.of (z.same _ _ ef5)) ?_ ?_
  · rintro k y H6 hk a2
    obtain ⟨km, rfl⟩ := fk hk
    obtain ⟨fl1, fl2⟩ := fst_at N D1 (sd := true) km
    have s16 := s15.trans a2.same
    have h16 := s16.seqT h1
    w_fin
    refine st_ixT (s16.seqT h4) (at_of (j := fstN n cols ws bs true k) (v := .int (inN ws bs true (fstN n cols ws bs true k))) (by omega) (by rw [List.getElem?_map, show ws[fstN n cols ws bs true k]? = _ from inAt (sd := true) fl1]; rfl)) ?_
    refine a2.fin (by rw [List.length_take, bIn_len]; omega) fun H' a => ?_
    rw [take_more (bAt km)]
    exact a
  intro H6 a2
  rw [lfs, List.take_of_length_le (by rw [bIn_len]; omega)] at a2
  have e6 := a2.ex
  w_fin
  intro it H7 _ s7 hit _
  have ew7 := (a2.same.trans s7) _ _ ew
  w_fin
  intro lt H8 _ s8 hlt hltn
  have s58 := (a2.same.trans s7).trans s8
  w_fin
  intro yl hyl
  refine itr_walk (lo := 0) (n := ((mK n cols ws bs : Nat) : Int).toNat) (fun i H' => AccI H8 yl ((bIn n cols ws bs false).take i) H') (AccI.start hyl) ?_ ?_
  · rintro i H9 hi acc
    have hi : i < mK n cols ws bs := by omega
    have s19 := (s15.trans s58).trans acc.same
    have h19 := s19.seqT h1
    have hb9 := hbl.stay s19.tups
    obtain ⟨fl1, fl2⟩ := fst_at N D1 (sd := false) hi
    w_fin
    refine ⟨⟨_, rfl, hb9.2⟩, ?_⟩
    w_fin
    rw [Int.zero_add]
    refine index_at (kinL_mem N D1 (sd := false) hi) hb9.1 ?_
    refine st_ixT (s19.seqT h5) (at_of (j := fstN n cols ws bs false i) (v := .int (inN ws bs false (fstN n cols ws bs false i))) rfl (by rw [List.getElem?_map, show bs[fstN n cols ws bs false i]? = _ from inAt (sd := false) fl1]; rfl)) ?_
    refine acc.fin (by rw [List.length_take, bIn_len]; omega) fun H' a => ?_
    rw [take_more (bAt hi)]
    exact a
  rintro H9 acc
  rw [List.take_of_length_le (by rw [bIn_len]; omega)] at acc
  have e9 := acc.ex
  w_fin
  intro yt H10 _ s10 hyt _
  w_fin
  intro pr H11 _ s11 hpr
  have s811 := (acc.same.trans s10).trans s11
  have hl := hls.imp fun _ _ z => SqN.stay (s58.trans s811).tups z
  exact kk pr H11 (((s1.trans s15).trans s58).trans s811) ⟨lt, it, yt, lxs, SqT.of hpr, s811.seqT hlt, hl.imp fun _ _ z => z.1, (s8.trans s811).seqT hit, s11.seqT hyt, hl⟩
end
section
variable {P : Program} {w : World} {K : PySem.W.Frag} {mg : Str → Option Value} {base : Heap}
def spRef35 (K : PySem.W.Frag) : Sp := fun vs H Q _ => ∃ (M : Addr → Prop) (x : V) (d : PyData) (b : Bool), vs = [x, .bl b] ∧ Dn M K H x d ∧ WordOk d ∧ isNetD 4 4 d = false ∧ ∀ H', Same H H' → Q (.bl true) H'
theorem ok_ref35 {C : Addr} {f : Addr} {fd : FuncData} (B : Blt mg) (eBadNetwork : Err K mg "BadNetwork" C) (hex : PySem.W.exmOne K (.ref C) (.ref C) = some true) (gkinds : Has P w K mg base (L2.CX P w) 6 "kinds" ["network"] (spKinds K C)) (gbase_of : Has P w K mg base (L2.CX P w) 7 "base_of" ["network"] (spBaseOf K C))
    (F : Fun K "_law_refused" "_law_refused" s_law_refused f fd) : FnOk P w K mg base CX0 8 f fd ["network", "first"] (spRef35 K) := by
  have sc : FnScope ["network", "first"] ["network", "first"] (defScope s_law_refused) := ⟨rfl, rfl, rfl, by decide +kernel, rfl, by decide +kernel, by decide +kernel⟩
  refine F.ok sc (fun vs H Q E h => ?_) (fun cdv A outer s H vs Q E hr h => ?_)
  · obtain ⟨_, _, _, _, rfl, _⟩ := h
    rfl
  obtain ⟨M, x, d, b, rfl, hd, hw, hn, k⟩ := h
  refine ⟨_, (pss_cons (ps_try_only rfl rfl ⟨rfl, by decide, .inl eBadNetwork.g⟩ takes0 (fun W pn xe tk _ =>
      (pss_one (ps_if (pt_val (pv 1))
        (pss_one (ps_expr (pcS gkinds hr tk (pa_cons (pv 0) pa_nil))))
        (pss_one (ps_expr (pcS gbase_of hr tk (pa_cons (pv 0) pa_nil)))))))
      (fun _ _ _ _ _ _ _ => (pss_one (ps_ret pe_bl))))
    (pss_one (ps_ret pe_bl))), ?_⟩
  try dsimp only [cxOf]
  cases b with
  | true =>
    w_fin
    exact ⟨_, rfl, M, x, d, rfl, hd, hw, .inl ⟨hn, fun H' s' => ⟨true, hex, fun _ _ _ => k H' s', (fun z => nomatch z)⟩⟩⟩
  | false =>
    w_fin
    exact ⟨_, rfl, M, x, d, rfl, hd, hw, .inl ⟨hn, fun H' s' => ⟨true, hex, fun _ _ _ => k H' s', (fun z => nomatch z)⟩⟩⟩
theorem kind_view {n : Nat} {cols : List (List Int)} {ws bs : List Int} (N : Net n cols ws bs) (T : Nat) {sd : Bool} {i j : Nat} (hi : i < n) (hj : j < n) (e : kS n cols ws bs sd i = kS n cols ws bs sd j) (b : Int) :
    gview (nfun ws bs) (nnx n cols) cols.length T (sd, (i : Int)) b = gview (nfun ws bs) (nnx n cols) cols.length T (sd, (j : Int)) b := by
  refine gview_sim (fun s t => ∃ (sd : Bool) (i j : Nat), s = (sd, (i : Int)) ∧ t = (sd, (j : Int)) ∧ i < n ∧ j < n ∧ kS n cols ws bs sd i = kS n cols ws bs sd j) (fun s t r => ?_) (fun c s t cD r => ?_) T _ _ b ⟨sd, i, j, rfl, rfl, hi, hj, e⟩
  · obtain ⟨sd, i, j, rfl, rfl, hi, hj, e⟩ := r
    exact st_inp (n := n) (D := cols.length) (inp := inN ws bs) (nb := nbN n cols) hi hj e
  · obtain ⟨sd, i, j, rfl, rfl, hi, hj, e⟩ := r
    obtain ⟨_, _, _, l1, e1⟩ := nb_at N (sd := sd) hi cD
    obtain ⟨_, _, _, l2, e2⟩ := nb_at N (sd := sd) hj cD
    exact ⟨!sd, _, _, e1, e2, l1, l2, kS_nb N hi hj e cD⟩
def spAlike (K : PySem.W.Frag) : Sp := fun vs H Q _ => ∃ (a p wl bl : Addr) (n : Nat) (cols : List (List Int)) (ws bs : List Int), vs = [.ref a, .ref p] ∧ NetV K H a n cols ws bs ∧ Net n cols ws bs ∧ 1 ≤ cols.length ∧ SqT K H p [.ref wl, .ref bl] ∧ SqN K H wl ((kinL n cols ws bs (2 * n) true).map V.int) ∧ SqN K H bl ((kinL n cols ws bs (2 * n) false).map V.int) ∧
  ∀ H', Same H H' → Q (.bl true) H'
set_option maxHeartbeats 1000000 in
theorem ok_alike {f : Addr} {fd : FuncData} (B : Blt mg) (g_law_branch : Has P w K mg base CX0 7 "_law_branch" ["network", "side", "node", "reach", "colour"] (spBranch K 6)) (F : Fun K "_law_alike_views" "_law_alike_views" s_law_alike_views f fd) : FnOk P w K mg base CX0 8 f fd ["network", "numbers"] (spAlike K) := by
  have sc : FnScope ["network", "numbers", "reach", "side", "node", "first"] ["network", "numbers"] (defScope s_law_alike_views) := ⟨rfl, rfl, rfl, by decide +kernel, rfl, by decide +kernel, by decide +kernel⟩
  refine F.ok sc (fun vs H Q E h => ?_) (fun cdv A outer s H vs Q E hr h => ?_)
  · obtain ⟨_, _, _, _, _, _, _, _, rfl, _⟩ := h
    rfl
  obtain ⟨a, p, wl, bl, n, cols, ws, bs, rfl, hV, N, D1, hp, hwl, hbl, k⟩ := h
  refine ⟨_, (pss_cons (ps_set (i := 2) sc.nd rfl (Or.inl rfl) (pe_op op_sub pe_int (pe_callB call_len_seq (by rfl) B.len (by decide +kernel) (pa_cons (pe_ix ix_tup (pv 0) pe_int (fun _ _ => rfl)) pa_nil))))
    (pss_cons (ps_for PassesOwn.never rfl (pi_range1 (by rfl) B.range (pa_cons pe_int pa_nil)) (pg_name (i := 3) sc.nd rfl (Or.inl rfl))
      (pss_one (ps_for PassesOwn.never rfl (pi_range1 (by rfl) B.range (pa_cons (pe_ix ix_tup (pv 0) pe_int (fun _ _ => rfl)) pa_nil)) (pg_name (i := 4) sc.nd rfl (Or.inl rfl))
        (pss_cons (ps_set (i := 5) sc.nd rfl (Or.inl rfl) (pe_bmN PySem.F.slot_tuple_index PySem.F.type_tuple_index mt_indexT (pe_ix ix_tup (pv 1) (pv 3) (fun _ _ => rfl)) (pa_cons (pe_ix ix_tup (pe_ix ix_tup (pv 1) (pv 3) (fun _ _ => rfl)) (pv 4) (fun _ _ => rfl)) pa_nil)))
        (pss_one (ps_if (pt_cmpR op_nei (pv 5) (pv 4) (nomark _))
          (pss_one (ps_if (pt_cmpR (op_neD hr.units) (pc g_law_branch hr (pa_cons (pv 0) (pa_cons (pv 3) (pa_cons (pv 4) (pa_cons (pv 2) (pa_cons pe_int pa_nil)))))) (pc g_law_branch hr (pa_cons (pv 0) (pa_cons (pv 3) (pa_cons (pv 5) (pa_cons (pv 2) (pa_cons pe_int pa_nil)))))) (nomark _))
            (pss_one (ps_ret pe_bl))
            pss_nil))
          pss_nil))))))
    (pss_one (ps_ret pe_bl)))), ?_⟩
  try dsimp only [cxOf]
  have few := N.few
  have n1 := N.pos
  have D4 := N.D4
  obtain ⟨la, wa, ba, cs, h1, h2, h3, h4, h5, h6⟩ := id hV
  have lcs : cs.length = cols.length := h3.len
  w_fin
  rw [lcs]
  obtain ⟨T, hT, hT4⟩ : ∃ T : Nat, (5 : Int) - (cols.length : Nat) = T ∧ T ≤ 4 := ⟨(5 - (cols.length : Int)).toNat, by omega, by omega⟩
  rw [hT]
  w_fin
  refine fr_range (fun i σ H' => ∃ (sv nv fv : Option V), σ = [some (.ref a), some (.ref p), some (.int T), sv, nv, fv] ∧ Same H H') ⟨none, none, none, rfl, Same.refl _⟩ ?_ ?_
  · rintro i σ H1 hi ⟨sv, nv, fv, rfl, s1⟩
    obtain ⟨sd, hsd⟩ : ∃ sd : Bool, (0 : Int) + (i : Int) = sdI sd := by
      match i, hi with
      | 0, _ => exact ⟨true, rfl⟩
      | 1, _ => exact ⟨false, rfl⟩
    obtain ⟨l, hl, hlN⟩ : ∃ l, atI [V.ref wl, .ref bl] (sdI sd) = some (.ref l) ∧ SqN K H l ((kinL n cols ws bs (2 * n) sd).map V.int) := by
      cases sd with
      | true => exact ⟨wl, rfl, hwl⟩
      | false => exact ⟨bl, rfl, hbl⟩
    have h11 := s1.seqT h1
    w_fin
    rw [hsd]
    refine fr_range (fun j σ H' => ∃ (nv fv : Option V), σ = [some (.ref a), some (.ref p), some (.int T), some (.int (sdI sd)), nv, fv] ∧ Same H H') ⟨_, _, rfl, s1⟩ ?_ ?_
    · rintro j σ H2 hj ⟨nv, fv, rfl, s2⟩
      have hj : j < n := by omega
      have hl2 := hlN.stay s2.tups
      have e1 := kinL_at (cols := cols) (ws := ws) (bs := bs) (k := 2 * n) (sd := sd) hj
      w_fin
      refine st_ixT (s2.seqT hp) hl ?_
      refine ⟨⟨_, rfl, hl2.2⟩, ?_⟩
      w_fin
      refine st_ixT (s2.seqT hp) hl ?_
      w_fin
      refine st_ixT hl2.1 (at_of (j := j) (v := .int ((kS n cols ws bs sd j : Nat) : Int)) (by omega) (by rw [List.getElem?_map, e1]; rfl)) ?_
      w_fin
      refine index_at (List.mem_of_getElem? e1) hl2.1 ?_
      obtain ⟨f1, f2⟩ := fst_at N D1 (sd := sd) (kS_lt N D1 (sd := sd) hj)
      have ef : (kinL n cols ws bs (2 * n) sd).idxOf ((kS n cols ws bs sd j : Nat) : Int) = fstN n cols ws bs sd (kS n cols ws bs sd j) := rfl
      rw [ef]
      w_fin
      refine st_ntwo (fun c => ?_) (fun c => ?_)
      · w_fin
        refine ⟨a, sd, _, 0, T, n, cols, ws, bs, rfl, hV.stay s2.tups, N, by omega, by omega, by omega, fun p1 H3 s3 v1 => ?_⟩
        w_fin
        refine ⟨a, sd, _, 0, T, n, cols, ws, bs, rfl, (hV.stay s2.tups).stay s3.tups, N, by omega, by omega, by omega, fun p2 H4 s4 v2 => ?_⟩
        w_fin
        rw [kind_view N T f1 hj f2 0] at v2
        rw [Int.zero_add] at v1
        have sh := shp_view (f := nfun ws bs) (nx := nnx n cols) (D := cols.length) T (sd, (j : Int)) 0
        refine ⟨_, _, (v1.stay s4.tups).dp, v2.dp, sh.shaped (by omega), sh.shaped (by omega), ?_⟩
        rw [SeqAt.eqv_refl _ sh.1]
        w_fin
        exact ⟨_, _, rfl, s2.trans (s3.trans s4)⟩
      · exact ⟨_, _, rfl, s2⟩
    · rintro σ H2 ⟨nv, fv, rfl, s2⟩
      exact ⟨_, _, _, rfl, s2⟩
  · rintro σ H1 ⟨sv, nv, fv, rfl, s1⟩
    w_fin
    exact k H1 s1
end
theorem rgV_rgn (n : Nat) : rgV 0 (n : Int) = (rgn n).map V.int := by
  unfold rgV rgn
  rw [List.map_map, show ((n : Int) - 0).toNat = n by omega]
  refine List.map_congr_left fun i _ => ?_
  show V.int (0 + _) = V.int _
  rw [Int.zero_add]
def pairI (a b : List Int) : PyData := .tuple [tupI a, tupI b]
theorem pl_pair {a b : List Int} (ha : a.length ≤ 1000) (hb : b.length ≤ 1000) : Pl (pairI a b) := by
  refine .tup (fun d hd => ?_) (by simp)
  simp only [List.mem_cons, List.not_mem_nil, or_false] at hd
  rcases hd with rfl | rfl
  · exact pl_ints _ ha
  · exact pl_ints _ hb
theorem dep_pair {a b : List Int} : (pairI a b).depth < 12 := by
  have : Shp 2 (pairI a b) := shp_tup (m := 1) fun d hd => by
    simp only [List.mem_cons, List.not_mem_nil, or_false] at hd
    rcases hd with rfl | rfl
    · exact shp_tup (shp_ints _)
    · exact shp_tup (shp_ints _)
  have := this.2
  omega
section
variable {P : Program} {w : World} {K : PySem.W.Frag} {mg : Str → Option Value} {base : Heap}
theorem pair_dt {H : Hp} {p x y : Addr} {a b : List Int} (hp : SqT K H p [.ref x, .ref y]) (hx : SqT K H x (a.map V.int)) (hy : SqT K H y (b.map V.int)) : Dt K H (.ref p) (pairI a b) := .tup hp (.cons (.tup hx (DtAll.ints _)) (.cons (.tup hy (DtAll.ints _)) .nil))
theorem base_in4 {n : Nat} {cols : List (List Int)} {ws bs : List Int} (N : Net n cols ws bs) (D1 : 1 ≤ cols.length) {sd : Bool} (h : ∀ z ∈ (if sd then ws else bs), 0 ≤ z ∧ z < 4) : ∀ z ∈ bIn n cols ws bs sd, 0 ≤ z ∧ z < 4 := fun z hz => by
  obtain ⟨k, hk, rfl⟩ := List.mem_map.mp hz
  exact h _ (inN_mem N (fst_at N D1 (List.mem_range.mp hk)).1)
def spRight35 (K : PySem.W.Frag) : Sp := fun vs H Q _ => ∃ (a : Addr) (n : Nat) (cols : List (List Int)) (ws bs : List Int), vs = [.ref a] ∧ NetV K H a n cols ws bs ∧ Net n cols ws bs ∧ n ≤ 400 ∧ 2 ≤ cols.length ∧ (∀ z ∈ ws, 0 ≤ z ∧ z < 4) ∧ (∀ z ∈ bs, 0 ≤ z ∧ z < 4) ∧ ∀ H', Same H H' → Q (.bl true) H'
set_option maxHeartbeats 1000000 in
theorem ok_right {C : Addr} {f : Addr} {fd : FuncData} (B : Blt mg) (g_law_kinds : Has P w K mg base CX0 2 "_law_kinds" ["network"] (spLKinds K)) (g_law_alike_views : Has P w K mg base CX0 8 "_law_alike_views" ["network", "numbers"] (spAlike K)) (g_law_like : Has P w K mg base CX0 13 "_law_like" ["found", "due"] (spLike K 12))
    (gkinds : Has P w K mg base (L2.CX P w) 6 "kinds" ["network"] (spKinds K C)) (gbase_of : Has P w K mg base (L2.CX P w) 7 "base_of" ["network"] (spBaseOf K C)) (g_law_base : Has P w K mg base CX0 3 "_law_base" ["network"] (spLBase K)) (F : Fun K "_law_right" "_law_right" s_law_right f fd) : FnOk P w K mg base CX0 14 f fd ["network"] (spRight35 K) := by
  have sc : FnScope ["network", "due", "base", "every"] ["network"] (defScope s_law_right) := ⟨rfl, rfl, rfl, by decide +kernel, rfl, by decide +kernel, by decide +kernel⟩
  refine F.ok sc (fun vs H Q E h => ?_) (fun cdv A outer s H vs Q E hr h => ?_)
  · obtain ⟨_, _, _, _, _, rfl, _⟩ := h
    rfl
  obtain ⟨a, n, cols, ws, bs, rfl, hV, N, n4, D2, w4, b4, k⟩ := h
  refine ⟨_, (pss_cons (ps_set (i := 1) sc.nd rfl (Or.inl rfl) (pc g_law_kinds hr (pa_cons (pv 0) pa_nil)))
    (pss_cons (ps_if (PW.pt (pw_or (pt_not (pt_val (pc g_law_alike_views hr (pa_cons (pv 0) (pa_cons (pv 1) pa_nil))))) (pw_or1 (pt_not (pt_val (pc g_law_like hr (pa_cons (pcX gkinds hr (pa_cons (pv 0) pa_nil)) (pa_cons (pv 1) pa_nil))))))))
      (pss_one (ps_ret pe_bl))
      pss_nil)
    (pss_cons (ps_set (i := 2) sc.nd rfl (Or.inl rfl) (pc g_law_base hr (pa_cons (pv 0) pa_nil)))
    (pss_cons (ps_if (pt_not (pt_val (pc g_law_like hr (pa_cons (pcX gbase_of hr (pa_cons (pv 0) pa_nil)) (pa_cons (pv 2) pa_nil)))))
      (pss_one (ps_ret pe_bl))
      pss_nil)
    (pss_cons (ps_set (i := 3) sc.nd rfl (Or.inl rfl) (pe_tupRg rfl (by rfl) B.tuple (prg_1 (by rfl) B.range (pe_ix ix_tup (pv 2) pe_int (fun _ _ => rfl)))))
    (pss_one (ps_ret (pe_and (pc g_law_like hr (pa_cons (pcX gkinds hr (pa_cons (pv 2) pa_nil)) (pa_cons (pe_tupN (pa_cons (pv 3) (pa_cons (pv 3) pa_nil))) pa_nil))) (pe_one (pc g_law_like hr (pa_cons (pcX gbase_of hr (pa_cons (pv 2) pa_nil)) (pa_cons (pv 2) pa_nil)))))))))))), ?_⟩
  try dsimp only [cxOf]
  have few := N.few
  have n1 := N.pos
  have D1 : 1 ≤ cols.length := by omega
  have okN := net_ok N n4 D2 w4 b4
  have N2 := base_net N D1
  have ml := mK_le (n := n) (cols := cols) (ws := ws) (bs := bs)
  have okB := net_ok N2 (by omega) (by rw [bCols_len]; exact D2) (base_in4 (sd := true) N D1 w4) (base_in4 (sd := false) N D1 b4)
  w_fin
  refine ⟨a, n, cols, ws, bs, rfl, hV, N, fun p wl bl H1 s1 hp hwl hbl => ?_⟩
  have hV1 := hV.stay s1.tups
  w_fin
  refine ⟨a, p, wl, bl, n, cols, ws, bs, rfl, hV1, N, D1, hp, hwl, hbl, fun H2 s2 => ?_⟩
  have s12 := s1.trans s2
  have hV2 := hV1.stay s2.tups
  w_fin
  refine iteF ?_
  w_fin
  refine ⟨fun _ => False, .ref a, _, rfl, hV2.dt.dn, net_word, .inr ⟨a, n, cols, ws, bs, rfl, okN, hV2, N, fun p2 wl2 bl2 H3 s3 hp2 hwl2 hbl2 => ?_⟩⟩
  w_fin
  have s23 := s2.trans s3
  refine ⟨.ref p2, .ref p, pairI (kinL n cols ws bs (2 * n) true) (kinL n cols ws bs (2 * n) false), rfl, pair_dt hp2 hwl2.1 hbl2.1, (pair_dt hp hwl.1 hbl.1).stay s23.tups, pl_pair (by rw [kinL_len]; omega) (by rw [kinL_len]; omega), dep_pair, fun H4 s4 => ?_⟩
  have hV4 := (hV2.stay s3.tups).stay s4.tups
  have s14 := (s12.trans s3).trans s4
  w_fin
  refine iteF ?_
  w_fin
  refine ⟨a, n, cols, ws, bs, rfl, hV4, N, D1, fun pb H5 s5 hB => ?_⟩
  have hV5 := hV4.stay s5.tups
  w_fin
  refine ⟨fun _ => False, .ref a, _, rfl, hV5.dt.dn, net_word, .inr ⟨a, n, cols, ws, bs, rfl, okN, hV5, N, D1, fun pf H6 s6 hF => ?_⟩⟩
  have hB6 := hB.stay s6.tups
  w_fin
  have plB := pl_net N2
  have dpB := (sized_net N2).2.2.1
  refine ⟨.ref pf, .ref pb, _, rfl, hF.dt, hB6.dt, plB, by omega, fun H7 s7 => ?_⟩
  have hB7 := hB6.stay s7.tups
  w_fin
  refine iteF ?_
  obtain ⟨bla, bwa, bba, bcs, y1, y2, y3, y4, y5, y6⟩ := id hB7
  w_fin
  unfold L2.tTupRg L2.tRg1
  w_fin
  refine ⟨RgOk.of_le (by omega) (by omega) (by omega) (by omega), fun ev hev => ?_⟩
  have s8 := same_new hev (.tup (rgV 0 (mK n cols ws bs)))
  have t8 : SqT K (upd H7 ev (.tup (rgV 0 (mK n cols ws bs)))) ev ((rgn (mK n cols ws bs)).map V.int) := by rw [← rgV_rgn]; exact SqT.of upd_same
  generalize upd H7 ev (.tup (rgV 0 (mK n cols ws bs))) = H8 at s8 t8 ⊢
  have hB8 := hB7.stay s8.tups
  w_fin
  refine ⟨fun _ => False, .ref pb, _, rfl, hB8.dt.dn, net_word, .inr ⟨pb, _, _, _, _, rfl, okB, hB8, N2, fun p3 wl3 bl3 H9 s9 hp3 hwl3 hbl3 => ?_⟩⟩
  rw [base_rgn N D1 true] at hwl3
  rw [base_rgn N D1 false] at hbl3
  w_fin
  intro et H10 _ s10 eet
  w_fin
  refine ⟨.ref p3, .ref et, pairI (rgn (mK n cols ws bs)) (rgn (mK n cols ws bs)), rfl, (pair_dt hp3 hwl3.1 hbl3.1).stay s10.tups, pair_dt (SqT.of eet) ((s9.trans s10).seqT t8) ((s9.trans s10).seqT t8), pl_pair (by rw [rgn_len]; omega) (by rw [rgn_len]; omega), dep_pair, fun H11 s11 => ?_⟩
  have hB11 := ((hB8.stay s9.tups).stay s10.tups).stay s11.tups
  w_fin
  refine ⟨fun _ => False, .ref pb, _, rfl, hB11.dt.dn, net_word, .inr ⟨pb, _, _, _, _, rfl, okB, hB11, N2, by rw [bCols_len]; exact D1, fun p4 H12 s12' hB2 => ?_⟩⟩
  rw [base_m N D1, base_cols N D1, base_in N D1 true, base_in N D1 false] at hB2
  w_fin
  refine ⟨.ref p4, .ref pb, _, rfl, hB2.dt, (hB11.stay s12'.tups).dt, plB, by omega, fun H13 s13 => ?_⟩
  exact k H13 (s14.trans ((((((((s5.trans s6).trans s7).trans s8).trans s9).trans s10).trans s11).trans s12').trans s13))
end
section
variable {P : Program} {w : World} {K : PySem.W.Frag} {mg : Str → Option Value} {base : Heap}
def spLaw (K : PySem.W.Frag) : Sp := fun vs H Q _ => ∃ (a : Addr) (ns : List Int), vs = [.ref a] ∧ SqL K H a (ns.map V.int) ∧ ns.length ≤ 63 ∧ ∀ H', Q (.bl true) H'
set_option maxHeartbeats 2000000 in
theorem ok_asked {C : Addr} {f : Addr} {fd : FuncData} (B : Blt mg) (g_law_draws : Has P w K mg base CX0 1 "_law_draws" ["script", "many"] (spDraws K)) (g_law_take : Has P w K mg base CX0 1 "_law_take" ["hand", "many"] (spTakeN K)) (g_law_network : Has P w K mg base CX0 3 "_law_network" ["hand", "colours", "many", "p", "q"] (spNet5 K))
    (g_law_copies : Has P w K mg base CX0 4 "_law_copies" ["hand", "colours", "p", "q", "most"] (spCopies K)) (g_law_right : Has P w K mg base CX0 14 "_law_right" ["network"] (spRight35 K)) (g_law_wrong_network : Has P w K mg base CX0 2 "_law_wrong_network" ["hand", "network"] (spWrongNet K))
    (g_law_refused : Has P w K mg base CX0 8 "_law_refused" ["network", "first"] (spRef35 K)) (g_law_like : Has P w K mg base CX0 13 "_law_like" ["found", "due"] (spLike K 12)) (g_law_kinds : Has P w K mg base CX0 2 "_law_kinds" ["network"] (spLKinds K)) (g_law_base : Has P w K mg base CX0 3 "_law_base" ["network"] (spLBase K))
    (kkinds : HasK P w K mg base (L2.CX P w) 6 "kinds" ["network"] (spKinds K C)) (kbase_of : HasK P w K mg base (L2.CX P w) 7 "base_of" ["network"] (spBaseOf K C))
    (F : Fun K "_law_asked" "_law_asked" s_law_asked f fd) : FnOk P w K mg base CX0 15 f fd ["script"] (spLaw K) := by
  have sc : FnScope ["script", "hand", "colours", "p", "q", "first", "second", "bad"] ["script"] (defScope s_law_asked) := ⟨rfl, rfl, rfl, by decide +kernel, rfl, by decide +kernel, by decide +kernel⟩
  refine F.ok sc (fun vs H Q E h => ?_) (fun cdv A outer s H vs Q E hr h => ?_)
  · obtain ⟨_, _, rfl, _⟩ := h
    rfl
  obtain ⟨a, ns, rfl, hS, h63, k⟩ := h
  refine ⟨_, (pss_cons (ps_set (i := 1) sc.nd rfl (Or.inl rfl) (pe_lstN (pa_cons (pc g_law_draws hr (pa_cons (pv 0) (pa_cons pe_int pa_nil))) (pa_cons pe_int pa_nil))))
    (pss_cons (ps_set (i := 2) sc.nd rfl (Or.inl rfl) (pe_ix ix_tup (pe_tupN (pa_cons pe_int (pa_cons pe_int (pa_cons pe_int (pa_cons pe_int pa_nil))))) (pc g_law_take hr (pa_cons (pv 1) (pa_cons pe_int pa_nil))) (fun _ _ => rfl)))
    (pss_cons (ps_set (i := 3) sc.nd rfl (Or.inl rfl) (pe_op op_add pe_int (pc g_law_take hr (pa_cons (pv 1) (pa_cons pe_int pa_nil)))))
    (pss_cons (ps_set (i := 4) sc.nd rfl (Or.inl rfl) (pe_op op_add pe_int (pc g_law_take hr (pa_cons (pv 1) (pa_cons pe_int pa_nil)))))
    (pss_cons (ps_set (i := 5) sc.nd rfl (Or.inl rfl) (pc g_law_copies hr (pa_cons (pv 1) (pa_cons (pv 2) (pa_cons (pv 3) (pa_cons (pv 4) (pa_cons pe_int pa_nil)))))))
    (pss_cons (ps_set (i := 6) sc.nd rfl (Or.inl rfl) (pc g_law_network hr (pa_cons (pv 1) (pa_cons (pv 2) (pa_cons (pe_op op_add pe_int (pc g_law_take hr (pa_cons (pv 1) (pa_cons pe_int pa_nil)))) (pa_cons (pv 3) (pa_cons (pv 4) pa_nil)))))))
    (pss_cons (ps_if (PW.pt (pw_or (pt_not (pt_val (pc g_law_right hr (pa_cons (pv 5) pa_nil)))) (pw_or1 (pt_not (pt_val (pc g_law_right hr (pa_cons (pv 6) pa_nil)))))))
      (pss_one (ps_ret pe_bl))
      pss_nil)
    (pss_cons (ps_set (i := 7) sc.nd rfl (Or.inl rfl) (pc g_law_wrong_network hr (pa_cons (pv 1) (pa_cons (pv 5) pa_nil))))
    (pss_cons (ps_if (PW.pt (pw_or (pt_not (pt_val (pc g_law_refused hr (pa_cons (pv 7) (pa_cons pe_bl pa_nil))))) (pw_or1 (pt_not (pt_val (pc g_law_refused hr (pa_cons (pv 7) (pa_cons pe_bl pa_nil))))))))
      (pss_one (ps_ret pe_bl))
      pss_nil)
    (pss_one (ps_ret (pe_and (pc g_law_like hr (pa_cons (pcK0 kkinds hr passL (pk_cons (pv 5) pk_nil)) (pa_cons (pc g_law_kinds hr (pa_cons (pv 5) pa_nil)) pa_nil))) (pe_one (pc g_law_like hr (pa_cons (pcK0 kbase_of hr passL (pk_cons (pv 5) pk_nil)) (pa_cons (pc g_law_base hr (pa_cons (pv 5) pa_nil)) pa_nil)))))))))))))))), ?_⟩
  try dsimp only [cxOf]
  w_fin
  refine ⟨a, ns, 500, rfl, hS, h63, by omega, fun d H1 ds hd0 s1 hd1 hdl hdb => ?_⟩
  w_fin
  intro h H2 hh0 s2 hh
  have hh2 : Hand H2 h d ds 0 := ⟨hh, s2 _ _ hd1⟩
  w_fin
  intro ct H3 _ s3 ect
  have hh3 := hh2.same s3
  w_fin
  refine ⟨h, d, ds, 0, 4, rfl, hh3, by omega, by omega, fun r1 H4 r10 r11 hh4 g4 => ?_⟩
  obtain ⟨D, hD, D2, D4⟩ : ∃ D : Nat, [V.int 2, .int 2, .int 3, .int 4][r1.toNat]? = some (.int (D : Int)) ∧ 2 ≤ D ∧ D ≤ 4 := by
    obtain ⟨j, rfl⟩ : ∃ j : Nat, r1 = j := ⟨r1.toNat, by omega⟩
    match j, (show j < 4 by omega) with
    | 0, _ => exact ⟨2, rfl, by omega, by omega⟩
    | 1, _ => exact ⟨2, rfl, by omega, by omega⟩
    | 2, _ => exact ⟨3, rfl, by omega, by omega⟩
    | 3, _ => exact ⟨4, rfl, by omega, by omega⟩
  refine st_ixT (g4.seqT (SqT.of ect)) (at_of (j := r1.toNat) (by omega) hD) ?_
  w_fin
  refine ⟨h, d, ds, _, 2, rfl, hh4, by omega, by omega, fun p0 H5 p00 p01 hh5 g5 => ?_⟩
  w_fin
  refine ⟨h, d, ds, _, 2, rfl, hh5, by omega, by omega, fun q0 H6 q00 q01 hh6 g6 => ?_⟩
  w_fin
  refine ⟨h, d, ds, _, D, 1 + p0, 1 + q0, 3, rfl, hh6, by omega, by omega, by omega, by omega, by omega, by omega, by omega, by omega, fun np H7 i7 n cols ws bs hh7 g7 hV N nl lD w4 b4 => ?_⟩
  have n4 : n ≤ 400 := by omega
  have D2n : 2 ≤ cols.length := by omega
  have D1n : 1 ≤ cols.length := by omega
  have w4' : ∀ z ∈ ws, 0 ≤ z ∧ z < 4 := fun z hz => by have := w4 z hz; omega
  have b4' : ∀ z ∈ bs, 0 ≤ z ∧ z < 4 := fun z hz => by have := b4 z hz; omega
  have okN := net_ok N n4 D2n w4' b4'
  w_fin
  refine ⟨h, d, ds, _, 6, rfl, hh7, by omega, by omega, fun m0 H8 m00 m01 hh8 g8 => ?_⟩
  obtain ⟨m, hm⟩ : ∃ m : Nat, 1 + m0 = m := ⟨(1 + m0).toNat, by omega⟩
  w_fin
  rw [hm]
  refine ⟨h, d, ds, _, D, m, 1 + p0, 1 + q0, rfl, hh8, by omega, by omega, by omega, by omega, by omega, by omega, by omega, fun np2 H9 i9 cols2 ws2 bs2 hh9 g9 hV2 N2 lD2 w42 b42 => ?_⟩
  have hV9 := (hV.stay g8.tups).stay g9.tups
  w_fin
  refine ⟨np, n, cols, ws, bs, rfl, hV9, N, n4, D2n, w4', b4', fun H10 s10 => ?_⟩
  w_fin
  refine iteF ?_
  w_fin
  refine ⟨np2, m, cols2, ws2, bs2, rfl, hV2.stay s10.tups, N2, by omega, by omega, fun z hz => by have := w42 z hz; omega, fun z hz => by have := b42 z hz; omega, fun H11 s11 => ?_⟩
  have s911 := s10.trans s11
  have hV11 := hV9.stay s911.tups
  w_fin
  refine iteF ?_
  w_fin
  refine ⟨h, d, np, ds, _, n, cols, ws, bs, rfl, hh9.same s911, hV11, N, D2n, fun M bad e2 H12 Mh hh12 g12 hbad hb => ?_⟩
  have hV12 := hV11.stay g12.tups
  w_fin
  refine ⟨M, bad, e2, true, rfl, hbad, hb.2, hb.1, fun H13 s13 => ?_⟩
  w_fin
  refine iteF ?_
  w_fin
  refine ⟨M, bad, e2, false, rfl, hbad.stay s13.go, hb.2, hb.1, fun H14 s14 => ?_⟩
  w_fin
  refine iteF ?_
  w_fin
  have hV14 := hV12.stay (s13.trans s14).tups
  refine ⟨fun _ => False, .ref np, _, rfl, hV14.dt.dn, net_word, .inr ⟨np, n, cols, ws, bs, rfl, okN, hV14, N, fun p2 wl2 bl2 H15 s15 hp2 hwl2 hbl2 => ?_⟩⟩
  have few := N.few
  have hV15 := hV14.stay s15.tups
  w_fin
  refine ⟨np, n, cols, ws, bs, rfl, hV15, N, fun p wl bl H16 s16 hp hwl hbl => ?_⟩
  w_fin
  refine ⟨.ref p2, .ref p, pairI (kinL n cols ws bs (2 * n) true) (kinL n cols ws bs (2 * n) false), rfl, (pair_dt hp2 hwl2.1 hbl2.1).stay s16.tups, pair_dt hp hwl.1 hbl.1, pl_pair (by rw [kinL_len]; omega) (by rw [kinL_len]; omega), dep_pair, fun H17 s17 => ?_⟩
  have hV17 := (hV15.stay s16.tups).stay s17.tups
  w_fin
  refine ⟨fun _ => False, .ref np, _, rfl, hV17.dt.dn, net_word, .inr ⟨np, n, cols, ws, bs, rfl, okN, hV17, N, D1n, fun pf H18 s18 hF => ?_⟩⟩
  w_fin
  refine ⟨np, n, cols, ws, bs, rfl, hV17.stay s18.tups, N, D1n, fun pb H19 s19 hB => ?_⟩
  w_fin
  have NB := base_net N D1n
  refine ⟨.ref pf, .ref pb, _, rfl, (hF.stay s19.tups).dt, hB.dt, pl_net NB, by have := (sized_net NB).2.2.1; omega, fun H20 _ => ?_⟩
  exact k H20
theorem ok_law {C : Addr} {f : Addr} {fd : FuncData} (B : Blt mg) (eLookError : Err K mg "LookError" C) (g_law_asked : Has P w K mg base CX0 15 "_law_asked" ["script"] (spLaw K)) (F : Fun K "law" "law" slaw f fd) : FnOk P w K mg base CX0 16 f fd ["script"] (spLaw K) := by
  have sc : FnScope ["script"] ["script"] (defScope slaw) := ⟨rfl, rfl, rfl, by decide +kernel, rfl, by decide +kernel, by decide +kernel⟩
  refine F.ok sc (fun vs H Q E h => ?_) (fun cdv A outer s H vs Q E hr h => ?_)
  · obtain ⟨_, _, rfl, _⟩ := h
    rfl
  obtain ⟨a, ns, rfl, hS, h63, k⟩ := h
  refine ⟨_, (pss_one (ps_try_only rfl rfl ⟨rfl, by decide, .inl eLookError.g⟩ takes0 (fun W pn xe tk _ =>
      (pss_one (ps_ret (pc g_law_asked hr (pa_cons (pv 0) pa_nil)))))
      (fun _ _ _ _ _ _ _ => (pss_one (ps_ret pe_bl))))), ?_⟩
  exact ⟨_, rfl, a, ns, rfl, hS, h63, fun H' => k H'⟩
end
/-! ### the top: the defs stand there as the text says -/
theorem def_mk {K : PySem.W.Frag} {h : Heap} {mg : Str → Option Value} {x : Str} {st : Stmt} {ps : List Str} {f : Addr} {od an : Option Addr} {sl : Array (Option Value)} {oc kV dc pm cd ct : Value} (X : K.In h) (G : h.Ns mainGlobals mg)
    (a : PySem.W.nsIn K mainGlobals x = some (some (.ref f))) (l : K.lookup f = some ⟨oc, od, .func (PySem.W.fnOf x x (defArgs st) (defBody st) (defScope st) .none kV dc pm an cd ct), sl⟩) (c : PySem.W.codeIn K cd x = true) (k : PySem.W.keepIn K (.ref f) = true)
    (b : ∀ (kV doc pm : Value) (an : Option Addr) (cdv ct : Value) (us : List Value), us.length = ps.length → bindArgs (PySem.W.fnOf x x (defArgs st) (defBody st) (defScope st) .none kV doc pm an cdv ct) ⟨us, []⟩ = pure (ps.zip us)) : Def K mg x st ps :=
  ⟨f, _, fun_mk l c k, PySem.W.mg_of X G a, (fun_mk l c k).binds b⟩
theorem all_mk {l : PySem.W.OpenLaw} {w : World} {K : PySem.W.Frag} {h : Heap} {mg : Str → Option Value} {fa f4 f10 f13 f14 f15 f16 f17 f19 f20 f21 f22 f23 f24 f25 f27 f28 f29 f30 f31 f32 f33 f34 f35 f36 f37 f38 f39 f40 f41 f42 f43 f44 f45 f46 f47 CBadNetwork CLookError CSIDES : Addr} (X : K.In h) (G : h.Ns mainGlobals mg) (hfa : mg "law" = some (.ref fa))
    {od4 an4 od10 an10 od13 an13 od14 an14 od15 an15 od16 an16 od17 an17 od19 an19 od20 an20 od21 an21 od22 an22 od23 an23 od24 an24 od25 an25 od27 an27 od28 an28 od29 an29 od30 an30 od31 an31 od32 an32 od33 an33 od34 an34 od35 an35 od36 an36 od37 an37 od38 an38 od39 an39 od40 an40 od41 an41 od42 an42 od43 an43 od44 an44 od45 an45 od46 an46 od47 an47 : Option Addr} {sl4 sl10 sl13 sl14 sl15 sl16 sl17 sl19 sl20 sl21 sl22 sl23 sl24 sl25 sl27 sl28 sl29 sl30 sl31 sl32 sl33 sl34 sl35 sl36 sl37 sl38 sl39 sl40 sl41 sl42 sl43 sl44 sl45 sl46 sl47 : Array (Option Value)} {oc4 kV4 dc4 pm4 cd4 ct4 oc10 kV10 dc10 pm10 cd10 ct10 oc13 kV13 dc13 pm13 cd13 ct13 oc14 kV14 dc14 pm14 cd14 ct14 oc15 kV15 dc15 pm15 cd15 ct15 oc16 kV16 dc16 pm16 cd16 ct16 oc17 kV17 dc17 pm17 cd17 ct17 oc19 kV19 dc19 pm19 cd19 ct19 oc20 kV20 dc20 pm20 cd20 ct20 oc21 kV21 dc21 pm21 cd21 ct21 oc22 kV22 dc22 pm22 cd22 ct22 oc23 kV23 dc23 pm23 cd23 ct23 oc24 kV24 dc24 pm24 cd24 ct24 oc25 kV25 dc25 pm25 cd25 ct25 oc27 kV27 dc27 pm27 cd27 ct27 oc28 kV28 dc28 pm28 cd28 ct28 oc29 kV29 dc29 pm29 cd29 ct29 oc30 kV30 dc30 pm30 cd30 ct30 oc31 kV31 dc31 pm31 cd31 ct31 oc32 kV32 dc32 pm32 cd32 ct32 oc33 kV33 dc33 pm33 cd33 ct33 oc34 kV34 dc34 pm34 cd34 ct34 oc35 kV35 dc35 pm35 cd35 ct35 oc36 kV36 dc36 pm36 cd36 ct36 oc37 kV37 dc37 pm37 cd37 ct37 oc38 kV38 dc38 pm38 cd38 ct38 oc39 kV39 dc39 pm39 cd39 ct39 oc40 kV40 dc40 pm40 cd40 ct40 oc41 kV41 dc41 pm41 cd41 ct41 oc42 kV42 dc42 pm42 cd42 ct42 oc43 kV43 dc43 pm43 cd43 ct43 oc44 kV44 dc44 pm44 cd44 ct44 oc45 kV45 dc45 pm45 cd45 ct45 oc46 kV46 dc46 pm46 cd46 ct46 oc47 kV47 dc47 pm47 cd47 ct47 : Value}
    (a4 : PySem.W.nsIn K mainGlobals "is_number" = some (some (.ref f4))) (l4 : K.lookup f4 = some ⟨oc4, od4, .func (PySem.W.fnOf "is_number" "is_number" (defArgs sis_number) (defBody sis_number) (defScope sis_number) .none kV4 dc4 pm4 an4 cd4 ct4), sl4⟩) (c4 : PySem.W.codeIn K cd4 "is_number" = true) (k4 : PySem.W.keepIn K (.ref f4) = true)
    (a10 : PySem.W.nsIn K mainGlobals "other_side" = some (some (.ref f10))) (l10 : K.lookup f10 = some ⟨oc10, od10, .func (PySem.W.fnOf "other_side" "other_side" (defArgs sother_side) (defBody sother_side) (defScope sother_side) .none kV10 dc10 pm10 an10 cd10 ct10), sl10⟩) (c10 : PySem.W.codeIn K cd10 "other_side" = true) (k10 : PySem.W.keepIn K (.ref f10) = true)
    (a13 : PySem.W.nsIn K mainGlobals "is_network" = some (some (.ref f13))) (l13 : K.lookup f13 = some ⟨oc13, od13, .func (PySem.W.fnOf "is_network" "is_network" (defArgs sis_network) (defBody sis_network) (defScope sis_network) .none kV13 dc13 pm13 an13 cd13 ct13), sl13⟩) (c13 : PySem.W.codeIn K cd13 "is_network" = true) (k13 : PySem.W.keepIn K (.ref f13) = true)
    (a14 : PySem.W.nsIn K mainGlobals "is_order" = some (some (.ref f14))) (l14 : K.lookup f14 = some ⟨oc14, od14, .func (PySem.W.fnOf "is_order" "is_order" (defArgs sis_order) (defBody sis_order) (defScope sis_order) .none kV14 dc14 pm14 an14 cd14 ct14), sl14⟩) (c14 : PySem.W.codeIn K cd14 "is_order" = true) (k14 : PySem.W.keepIn K (.ref f14) = true)
    (a15 : PySem.W.nsIn K mainGlobals "ends_of" = some (some (.ref f15))) (l15 : K.lookup f15 = some ⟨oc15, od15, .func (PySem.W.fnOf "ends_of" "ends_of" (defArgs sends_of) (defBody sends_of) (defScope sends_of) .none kV15 dc15 pm15 an15 cd15 ct15), sl15⟩) (c15 : PySem.W.codeIn K cd15 "ends_of" = true) (k15 : PySem.W.keepIn K (.ref f15) = true)
    (a16 : PySem.W.nsIn K mainGlobals "inputs_of" = some (some (.ref f16))) (l16 : K.lookup f16 = some ⟨oc16, od16, .func (PySem.W.fnOf "inputs_of" "inputs_of" (defArgs sinputs_of) (defBody sinputs_of) (defScope sinputs_of) .none kV16 dc16 pm16 an16 cd16 ct16), sl16⟩) (c16 : PySem.W.codeIn K cd16 "inputs_of" = true) (k16 : PySem.W.keepIn K (.ref f16) = true)
    (a17 : PySem.W.nsIn K mainGlobals "_are_numbers" = some (some (.ref f17))) (l17 : K.lookup f17 = some ⟨oc17, od17, .func (PySem.W.fnOf "_are_numbers" "_are_numbers" (defArgs s_are_numbers) (defBody s_are_numbers) (defScope s_are_numbers) .none kV17 dc17 pm17 an17 cd17 ct17), sl17⟩) (c17 : PySem.W.codeIn K cd17 "_are_numbers" = true) (k17 : PySem.W.keepIn K (.ref f17) = true)
    (a19 : PySem.W.nsIn K mainGlobals "check_plain" = some (some (.ref f19))) (l19 : K.lookup f19 = some ⟨oc19, od19, .func (PySem.W.fnOf "check_plain" "check_plain" (defArgs scheck_plain) (defBody scheck_plain) (defScope scheck_plain) .none kV19 dc19 pm19 an19 cd19 ct19), sl19⟩) (c19 : PySem.W.codeIn K cd19 "check_plain" = true) (k19 : PySem.W.keepIn K (.ref f19) = true)
    (a20 : PySem.W.nsIn K mainGlobals "kinds" = some (some (.ref f20))) (l20 : K.lookup f20 = some ⟨oc20, od20, .func (PySem.W.fnOf "kinds" "kinds" (defArgs skinds) (defBody skinds) (defScope skinds) .none kV20 dc20 pm20 an20 cd20 ct20), sl20⟩) (c20 : PySem.W.codeIn K cd20 "kinds" = true) (k20 : PySem.W.keepIn K (.ref f20) = true)
    (a21 : PySem.W.nsIn K mainGlobals "base_of" = some (some (.ref f21))) (l21 : K.lookup f21 = some ⟨oc21, od21, .func (PySem.W.fnOf "base_of" "base_of" (defArgs sbase_of) (defBody sbase_of) (defScope sbase_of) .none kV21 dc21 pm21 an21 cd21 ct21), sl21⟩) (c21 : PySem.W.codeIn K cd21 "base_of" = true) (k21 : PySem.W.keepIn K (.ref f21) = true)
    (a22 : PySem.W.nsIn K mainGlobals "_numbered" = some (some (.ref f22))) (l22 : K.lookup f22 = some ⟨oc22, od22, .func (PySem.W.fnOf "_numbered" "_numbered" (defArgs s_numbered) (defBody s_numbered) (defScope s_numbered) .none kV22 dc22 pm22 an22 cd22 ct22), sl22⟩) (c22 : PySem.W.codeIn K cd22 "_numbered" = true) (k22 : PySem.W.keepIn K (.ref f22) = true)
    (a23 : PySem.W.nsIn K mainGlobals "_signs" = some (some (.ref f23))) (l23 : K.lookup f23 = some ⟨oc23, od23, .func (PySem.W.fnOf "_signs" "_signs" (defArgs s_signs) (defBody s_signs) (defScope s_signs) .none kV23 dc23 pm23 an23 cd23 ct23), sl23⟩) (c23 : PySem.W.codeIn K cd23 "_signs" = true) (k23 : PySem.W.keepIn K (.ref f23) = true)
    (a24 : PySem.W.nsIn K mainGlobals "_inputs_at" = some (some (.ref f24))) (l24 : K.lookup f24 = some ⟨oc24, od24, .func (PySem.W.fnOf "_inputs_at" "_inputs_at" (defArgs s_inputs_at) (defBody s_inputs_at) (defScope s_inputs_at) .none kV24 dc24 pm24 an24 cd24 ct24), sl24⟩) (c24 : PySem.W.codeIn K cd24 "_inputs_at" = true) (k24 : PySem.W.keepIn K (.ref f24) = true)
    (a25 : PySem.W.nsIn K mainGlobals "_count" = some (some (.ref f25))) (l25 : K.lookup f25 = some ⟨oc25, od25, .func (PySem.W.fnOf "_count" "_count" (defArgs s_count) (defBody s_count) (defScope s_count) .none kV25 dc25 pm25 an25 cd25 ct25), sl25⟩) (c25 : PySem.W.codeIn K cd25 "_count" = true) (k25 : PySem.W.keepIn K (.ref f25) = true)
    (a27 : PySem.W.nsIn K mainGlobals "_law_draws" = some (some (.ref f27))) (l27 : K.lookup f27 = some ⟨oc27, od27, .func (PySem.W.fnOf "_law_draws" "_law_draws" (defArgs s_law_draws) (defBody s_law_draws) (defScope s_law_draws) .none kV27 dc27 pm27 an27 cd27 ct27), sl27⟩) (c27 : PySem.W.codeIn K cd27 "_law_draws" = true) (k27 : PySem.W.keepIn K (.ref f27) = true)
    (a28 : PySem.W.nsIn K mainGlobals "_law_take" = some (some (.ref f28))) (l28 : K.lookup f28 = some ⟨oc28, od28, .func (PySem.W.fnOf "_law_take" "_law_take" (defArgs s_law_take) (defBody s_law_take) (defScope s_law_take) .none kV28 dc28 pm28 an28 cd28 ct28), sl28⟩) (c28 : PySem.W.codeIn K cd28 "_law_take" = true) (k28 : PySem.W.keepIn K (.ref f28) = true)
    (a29 : PySem.W.nsIn K mainGlobals "_law_whole" = some (some (.ref f29))) (l29 : K.lookup f29 = some ⟨oc29, od29, .func (PySem.W.fnOf "_law_whole" "_law_whole" (defArgs s_law_whole) (defBody s_law_whole) (defScope s_law_whole) .none kV29 dc29 pm29 an29 cd29 ct29), sl29⟩) (c29 : PySem.W.codeIn K cd29 "_law_whole" = true) (k29 : PySem.W.keepIn K (.ref f29) = true)
    (a30 : PySem.W.nsIn K mainGlobals "_law_like" = some (some (.ref f30))) (l30 : K.lookup f30 = some ⟨oc30, od30, .func (PySem.W.fnOf "_law_like" "_law_like" (defArgs s_law_like) (defBody s_law_like) (defScope s_law_like) .none kV30 dc30 pm30 an30 cd30 ct30), sl30⟩) (c30 : PySem.W.codeIn K cd30 "_law_like" = true) (k30 : PySem.W.keepIn K (.ref f30) = true)
    (a31 : PySem.W.nsIn K mainGlobals "_law_order" = some (some (.ref f31))) (l31 : K.lookup f31 = some ⟨oc31, od31, .func (PySem.W.fnOf "_law_order" "_law_order" (defArgs s_law_order) (defBody s_law_order) (defScope s_law_order) .none kV31 dc31 pm31 an31 cd31 ct31), sl31⟩) (c31 : PySem.W.codeIn K cd31 "_law_order" = true) (k31 : PySem.W.keepIn K (.ref f31) = true)
    (a32 : PySem.W.nsIn K mainGlobals "_law_network" = some (some (.ref f32))) (l32 : K.lookup f32 = some ⟨oc32, od32, .func (PySem.W.fnOf "_law_network" "_law_network" (defArgs s_law_network) (defBody s_law_network) (defScope s_law_network) .none kV32 dc32 pm32 an32 cd32 ct32), sl32⟩) (c32 : PySem.W.codeIn K cd32 "_law_network" = true) (k32 : PySem.W.keepIn K (.ref f32) = true)
    (a33 : PySem.W.nsIn K mainGlobals "_law_wrong_network" = some (some (.ref f33))) (l33 : K.lookup f33 = some ⟨oc33, od33, .func (PySem.W.fnOf "_law_wrong_network" "_law_wrong_network" (defArgs s_law_wrong_network) (defBody s_law_wrong_network) (defScope s_law_wrong_network) .none kV33 dc33 pm33 an33 cd33 ct33), sl33⟩) (c33 : PySem.W.codeIn K cd33 "_law_wrong_network" = true) (k33 : PySem.W.keepIn K (.ref f33) = true)
    (a34 : PySem.W.nsIn K mainGlobals "_law_behind" = some (some (.ref f34))) (l34 : K.lookup f34 = some ⟨oc34, od34, .func (PySem.W.fnOf "_law_behind" "_law_behind" (defArgs s_law_behind) (defBody s_law_behind) (defScope s_law_behind) .none kV34 dc34 pm34 an34 cd34 ct34), sl34⟩) (c34 : PySem.W.codeIn K cd34 "_law_behind" = true) (k34 : PySem.W.keepIn K (.ref f34) = true)
    (a35 : PySem.W.nsIn K mainGlobals "_law_branch" = some (some (.ref f35))) (l35 : K.lookup f35 = some ⟨oc35, od35, .func (PySem.W.fnOf "_law_branch" "_law_branch" (defArgs s_law_branch) (defBody s_law_branch) (defScope s_law_branch) .none kV35 dc35 pm35 an35 cd35 ct35), sl35⟩) (c35 : PySem.W.codeIn K cd35 "_law_branch" = true) (k35 : PySem.W.keepIn K (.ref f35) = true)
    (a36 : PySem.W.nsIn K mainGlobals "_law_kinds" = some (some (.ref f36))) (l36 : K.lookup f36 = some ⟨oc36, od36, .func (PySem.W.fnOf "_law_kinds" "_law_kinds" (defArgs s_law_kinds) (defBody s_law_kinds) (defScope s_law_kinds) .none kV36 dc36 pm36 an36 cd36 ct36), sl36⟩) (c36 : PySem.W.codeIn K cd36 "_law_kinds" = true) (k36 : PySem.W.keepIn K (.ref f36) = true)
    (a37 : PySem.W.nsIn K mainGlobals "_law_counted" = some (some (.ref f37))) (l37 : K.lookup f37 = some ⟨oc37, od37, .func (PySem.W.fnOf "_law_counted" "_law_counted" (defArgs s_law_counted) (defBody s_law_counted) (defScope s_law_counted) .none kV37 dc37 pm37 an37 cd37 ct37), sl37⟩) (c37 : PySem.W.codeIn K cd37 "_law_counted" = true) (k37 : PySem.W.keepIn K (.ref f37) = true)
    (a38 : PySem.W.nsIn K mainGlobals "_law_base" = some (some (.ref f38))) (l38 : K.lookup f38 = some ⟨oc38, od38, .func (PySem.W.fnOf "_law_base" "_law_base" (defArgs s_law_base) (defBody s_law_base) (defScope s_law_base) .none kV38 dc38 pm38 an38 cd38 ct38), sl38⟩) (c38 : PySem.W.codeIn K cd38 "_law_base" = true) (k38 : PySem.W.keepIn K (.ref f38) = true)
    (a39 : PySem.W.nsIn K mainGlobals "_law_cover" = some (some (.ref f39))) (l39 : K.lookup f39 = some ⟨oc39, od39, .func (PySem.W.fnOf "_law_cover" "_law_cover" (defArgs s_law_cover) (defBody s_law_cover) (defScope s_law_cover) .none kV39 dc39 pm39 an39 cd39 ct39), sl39⟩) (c39 : PySem.W.codeIn K cd39 "_law_cover" = true) (k39 : PySem.W.keepIn K (.ref f39) = true)
    (a40 : PySem.W.nsIn K mainGlobals "_law_turns" = some (some (.ref f40))) (l40 : K.lookup f40 = some ⟨oc40, od40, .func (PySem.W.fnOf "_law_turns" "_law_turns" (defArgs s_law_turns) (defBody s_law_turns) (defScope s_law_turns) .none kV40 dc40 pm40 an40 cd40 ct40), sl40⟩) (c40 : PySem.W.codeIn K cd40 "_law_turns" = true) (k40 : PySem.W.keepIn K (.ref f40) = true)
    (a41 : PySem.W.nsIn K mainGlobals "_law_mixed_up" = some (some (.ref f41))) (l41 : K.lookup f41 = some ⟨oc41, od41, .func (PySem.W.fnOf "_law_mixed_up" "_law_mixed_up" (defArgs s_law_mixed_up) (defBody s_law_mixed_up) (defScope s_law_mixed_up) .none kV41 dc41 pm41 an41 cd41 ct41), sl41⟩) (c41 : PySem.W.codeIn K cd41 "_law_mixed_up" = true) (k41 : PySem.W.keepIn K (.ref f41) = true)
    (a42 : PySem.W.nsIn K mainGlobals "_law_copies" = some (some (.ref f42))) (l42 : K.lookup f42 = some ⟨oc42, od42, .func (PySem.W.fnOf "_law_copies" "_law_copies" (defArgs s_law_copies) (defBody s_law_copies) (defScope s_law_copies) .none kV42 dc42 pm42 an42 cd42 ct42), sl42⟩) (c42 : PySem.W.codeIn K cd42 "_law_copies" = true) (k42 : PySem.W.keepIn K (.ref f42) = true)
    (a43 : PySem.W.nsIn K mainGlobals "_law_refused" = some (some (.ref f43))) (l43 : K.lookup f43 = some ⟨oc43, od43, .func (PySem.W.fnOf "_law_refused" "_law_refused" (defArgs s_law_refused) (defBody s_law_refused) (defScope s_law_refused) .none kV43 dc43 pm43 an43 cd43 ct43), sl43⟩) (c43 : PySem.W.codeIn K cd43 "_law_refused" = true) (k43 : PySem.W.keepIn K (.ref f43) = true)
    (a44 : PySem.W.nsIn K mainGlobals "_law_alike_views" = some (some (.ref f44))) (l44 : K.lookup f44 = some ⟨oc44, od44, .func (PySem.W.fnOf "_law_alike_views" "_law_alike_views" (defArgs s_law_alike_views) (defBody s_law_alike_views) (defScope s_law_alike_views) .none kV44 dc44 pm44 an44 cd44 ct44), sl44⟩) (c44 : PySem.W.codeIn K cd44 "_law_alike_views" = true) (k44 : PySem.W.keepIn K (.ref f44) = true)
    (a45 : PySem.W.nsIn K mainGlobals "_law_right" = some (some (.ref f45))) (l45 : K.lookup f45 = some ⟨oc45, od45, .func (PySem.W.fnOf "_law_right" "_law_right" (defArgs s_law_right) (defBody s_law_right) (defScope s_law_right) .none kV45 dc45 pm45 an45 cd45 ct45), sl45⟩) (c45 : PySem.W.codeIn K cd45 "_law_right" = true) (k45 : PySem.W.keepIn K (.ref f45) = true)
    (a46 : PySem.W.nsIn K mainGlobals "_law_asked" = some (some (.ref f46))) (l46 : K.lookup f46 = some ⟨oc46, od46, .func (PySem.W.fnOf "_law_asked" "_law_asked" (defArgs s_law_asked) (defBody s_law_asked) (defScope s_law_asked) .none kV46 dc46 pm46 an46 cd46 ct46), sl46⟩) (c46 : PySem.W.codeIn K cd46 "_law_asked" = true) (k46 : PySem.W.keepIn K (.ref f46) = true)
    (a47 : PySem.W.nsIn K mainGlobals "law" = some (some (.ref f47))) (l47 : K.lookup f47 = some ⟨oc47, od47, .func (PySem.W.fnOf "law" "law" (defArgs slaw) (defBody slaw) (defScope slaw) .none kV47 dc47 pm47 an47 cd47 ct47), sl47⟩) (c47 : PySem.W.codeIn K cd47 "law" = true) (k47 : PySem.W.keepIn K (.ref f47) = true)
    (gBadNetwork : PySem.W.nsIn K mainGlobals "BadNetwork" = some (some (.ref CBadNetwork))) (xBadNetwork : PySem.W.excIn K CBadNetwork [.type "ValueError", .type "Exception", .type "BaseException", .type "object"] "ValueError.__new__" = true) (kBadNetwork : PySem.W.keepIn K (.ref CBadNetwork) = true) (bBadNetwork : PySem.W.subIn K (.ref CBadNetwork) (.type "BaseException") = some true) (tBadNetwork : PySem.W.typeIn K (.ref CBadNetwork) = some (.type "type")) (iBadNetwork : PySem.W.isClsIn K CBadNetwork = true)
    (gLookError : PySem.W.nsIn K mainGlobals "LookError" = some (some (.ref CLookError))) (xLookError : PySem.W.excIn K CLookError [.type "ValueError", .type "Exception", .type "BaseException", .type "object"] "ValueError.__new__" = true) (kLookError : PySem.W.keepIn K (.ref CLookError) = true) (bLookError : PySem.W.subIn K (.ref CLookError) (.type "BaseException") = some true) (tLookError : PySem.W.typeIn K (.ref CLookError) = some (.type "type")) (iLookError : PySem.W.isClsIn K CLookError = true)
    (sBadNetworkBadNetwork : PySem.W.subIn K (.ref CBadNetwork) (.ref CBadNetwork) = some true)
    (gSIDES : PySem.W.nsIn K mainGlobals "SIDES" = some (some (.ref CSIDES)))
    (zS : SidesT K CSIDES)
    (zabs : PySem.W.nsIn K mainGlobals "abs" = some none)
    (zint : PySem.W.nsIn K mainGlobals "int" = some none)
    (zlen : PySem.W.nsIn K mainGlobals "len" = some none)
    (zrange : PySem.W.nsIn K mainGlobals "range" = some none)
    (ztuple : PySem.W.nsIn K mainGlobals "tuple" = some none)
    (zisinstance : PySem.W.nsIn K mainGlobals "isinstance" = some none)
    (zbool : PySem.W.nsIn K mainGlobals "bool" = some none)
    (zlist : PySem.W.nsIn K mainGlobals "list" = some none)
    (zstr : PySem.W.nsIn K mainGlobals "str" = some none)
    (zall : PySem.W.nsIn K mainGlobals "all" = some none)
    (zset : PySem.W.nsIn K mainGlobals "set" = some none)
    (zmax : PySem.W.nsIn K mainGlobals "max" = some none)
    (zsum : PySem.W.nsIn K mainGlobals "sum" = some none)
    (zenumerate : PySem.W.nsIn K mainGlobals "enumerate" = some none)
    {tkLEAST_COLOURS : Tok} (qLEAST_COLOURS : PySem.W.nsIn K mainGlobals "LEAST_COLOURS" = some (some (.int 2 tkLEAST_COLOURS)))
    {tkMOST_COLOURS : Tok} (qMOST_COLOURS : PySem.W.nsIn K mainGlobals "MOST_COLOURS" = some (some (.int 4 tkMOST_COLOURS)))
    {tkMOST_INPUTS : Tok} (qMOST_INPUTS : PySem.W.nsIn K mainGlobals "MOST_INPUTS" = some (some (.int 4 tkMOST_INPUTS)))
    {tkMOST_NODES : Tok} (qMOST_NODES : PySem.W.nsIn K mainGlobals "MOST_NODES" = some (some (.int 400 tkMOST_NODES))) :
    ∃ fd : FuncData, (∀ (s : Shared) (v : Value), BindsTo s fd ⟨[v], []⟩ [("script", v)]) ∧ ∀ base : Heap, K.In base → base.Ns mainGlobals mg → FnG l.prog w K mg base 16 fa fd ["script"] (spLaw K) := by
  have e := hfa.symm.trans (PySem.W.mg_of X G a47)
  cases e
  have B : Blt mg := ⟨PySem.W.mg_none_of X G zabs, PySem.W.mg_none_of X G zint, PySem.W.mg_none_of X G zlen, PySem.W.mg_none_of X G zrange, PySem.W.mg_none_of X G ztuple, PySem.W.mg_none_of X G zisinstance, PySem.W.mg_none_of X G zbool, PySem.W.mg_none_of X G zlist, PySem.W.mg_none_of X G zstr, PySem.W.mg_none_of X G zall, PySem.W.mg_none_of X G zset, PySem.W.mg_none_of X G zmax, PySem.W.mg_none_of X G zsum, PySem.W.mg_none_of X G zenumerate⟩
  have T : Cst mg := ⟨⟨_, PySem.W.mg_of X G qLEAST_COLOURS⟩, ⟨_, PySem.W.mg_of X G qMOST_COLOURS⟩, ⟨_, PySem.W.mg_of X G qMOST_INPUTS⟩, ⟨_, PySem.W.mg_of X G qMOST_NODES⟩⟩
  have eBadNetwork : Err K mg "BadNetwork" CBadNetwork := ⟨xBadNetwork, PySem.W.mg_of X G gBadNetwork, kBadNetwork, bBadNetwork, tBadNetwork⟩
  have eLookError : Err K mg "LookError" CLookError := ⟨xLookError, PySem.W.mg_of X G gLookError, kLookError, bLookError, tLookError⟩
  have hBadNetworkBadNetwork := exm_of2 bBadNetwork iBadNetwork tBadNetwork sBadNetworkBadNetwork
  have hSIDES := PySem.W.mg_of X G gSIDES
  have kkinds : DefK K mg "kinds" skinds ["network"] := ⟨f20, _, fun_mk l20 c20 k20, PySem.W.mg_of X G a20, fun s ws hl => match ws, hl with | [_], _ => .of_eq rfl⟩
  have kbase_of : DefK K mg "base_of" sbase_of ["network"] := ⟨f21, _, fun_mk l21 c21 k21, PySem.W.mg_of X G a21, fun s ws hl => match ws, hl with | [_], _ => .of_eq rfl⟩
  have dis_number : Def K mg "is_number" sis_number ["value", "low", "high"] := def_mk X G a4 l4 c4 k4 fun _ _ _ _ _ _ us hl => match us, hl with | [_, _, _], _ => rfl
  have dother_side : Def K mg "other_side" sother_side ["side"] := def_mk X G a10 l10 c10 k10 fun _ _ _ _ _ _ us hl => match us, hl with | [_], _ => rfl
  have dis_network : Def K mg "is_network" sis_network ["value", "p", "q"] := def_mk X G a13 l13 c13 k13 fun _ _ _ _ _ _ us hl => match us, hl with | [_, _, _], _ => rfl
  have dis_order : Def K mg "is_order" sis_order ["value", "many"] := def_mk X G a14 l14 c14 k14 fun _ _ _ _ _ _ us hl => match us, hl with | [_, _], _ => rfl
  have dends_of : Def K mg "ends_of" sends_of ["network"] := def_mk X G a15 l15 c15 k15 fun _ _ _ _ _ _ us hl => match us, hl with | [_], _ => rfl
  have dinputs_of : Def K mg "inputs_of" sinputs_of ["network", "side"] := def_mk X G a16 l16 c16 k16 fun _ _ _ _ _ _ us hl => match us, hl with | [_, _], _ => rfl
  have d_are_numbers : Def K mg "_are_numbers" s_are_numbers ["value", "many", "most"] := def_mk X G a17 l17 c17 k17 fun _ _ _ _ _ _ us hl => match us, hl with | [_, _, _], _ => rfl
  have dcheck_plain : Def K mg "check_plain" scheck_plain ["network"] := def_mk X G a19 l19 c19 k19 fun _ _ _ _ _ _ us hl => match us, hl with | [_], _ => rfl
  have dkinds : Def K mg "kinds" skinds ["network"] := def_mk X G a20 l20 c20 k20 fun _ _ _ _ _ _ us hl => match us, hl with | [_], _ => rfl
  have dbase_of : Def K mg "base_of" sbase_of ["network"] := def_mk X G a21 l21 c21 k21 fun _ _ _ _ _ _ us hl => match us, hl with | [_], _ => rfl
  have d_numbered : Def K mg "_numbered" s_numbered ["signs"] := def_mk X G a22 l22 c22 k22 fun _ _ _ _ _ _ us hl => match us, hl with | [_], _ => rfl
  have d_signs : Def K mg "_signs" s_signs ["parted", "ends", "side"] := def_mk X G a23 l23 c23 k23 fun _ _ _ _ _ _ us hl => match us, hl with | [_, _, _], _ => rfl
  have d_inputs_at : Def K mg "_inputs_at" s_inputs_at ["inputs", "nodes"] := def_mk X G a24 l24 c24 k24 fun _ _ _ _ _ _ us hl => match us, hl with | [_, _], _ => rfl
  have d_count : Def K mg "_count" s_count ["parted"] := def_mk X G a25 l25 c25 k25 fun _ _ _ _ _ _ us hl => match us, hl with | [_], _ => rfl
  have d_law_draws : Def K mg "_law_draws" s_law_draws ["script", "many"] := def_mk X G a27 l27 c27 k27 fun _ _ _ _ _ _ us hl => match us, hl with | [_, _], _ => rfl
  have d_law_take : Def K mg "_law_take" s_law_take ["hand", "many"] := def_mk X G a28 l28 c28 k28 fun _ _ _ _ _ _ us hl => match us, hl with | [_, _], _ => rfl
  have d_law_whole : Def K mg "_law_whole" s_law_whole ["found"] := def_mk X G a29 l29 c29 k29 fun _ _ _ _ _ _ us hl => match us, hl with | [_], _ => rfl
  have d_law_like : Def K mg "_law_like" s_law_like ["found", "due"] := def_mk X G a30 l30 c30 k30 fun _ _ _ _ _ _ us hl => match us, hl with | [_, _], _ => rfl
  have d_law_order : Def K mg "_law_order" s_law_order ["hand", "many"] := def_mk X G a31 l31 c31 k31 fun _ _ _ _ _ _ us hl => match us, hl with | [_, _], _ => rfl
  have d_law_network : Def K mg "_law_network" s_law_network ["hand", "colours", "many", "p", "q"] := def_mk X G a32 l32 c32 k32 fun _ _ _ _ _ _ us hl => match us, hl with | [_, _, _, _, _], _ => rfl
  have d_law_wrong_network : Def K mg "_law_wrong_network" s_law_wrong_network ["hand", "network"] := def_mk X G a33 l33 c33 k33 fun _ _ _ _ _ _ us hl => match us, hl with | [_, _], _ => rfl
  have d_law_behind : Def K mg "_law_behind" s_law_behind ["network", "side", "node", "colour"] := def_mk X G a34 l34 c34 k34 fun _ _ _ _ _ _ us hl => match us, hl with | [_, _, _, _], _ => rfl
  have d_law_branch : Def K mg "_law_branch" s_law_branch ["network", "side", "node", "reach", "colour"] := def_mk X G a35 l35 c35 k35 fun _ _ _ _ _ _ us hl => match us, hl with | [_, _, _, _, _], _ => rfl
  have d_law_kinds : Def K mg "_law_kinds" s_law_kinds ["network"] := def_mk X G a36 l36 c36 k36 fun _ _ _ _ _ _ us hl => match us, hl with | [_], _ => rfl
  have d_law_counted : Def K mg "_law_counted" s_law_counted ["marks"] := def_mk X G a37 l37 c37 k37 fun _ _ _ _ _ _ us hl => match us, hl with | [_], _ => rfl
  have d_law_base : Def K mg "_law_base" s_law_base ["network"] := def_mk X G a38 l38 c38 k38 fun _ _ _ _ _ _ us hl => match us, hl with | [_], _ => rfl
  have d_law_cover : Def K mg "_law_cover" s_law_cover ["network", "turns"] := def_mk X G a39 l39 c39 k39 fun _ _ _ _ _ _ us hl => match us, hl with | [_, _], _ => rfl
  have d_law_turns : Def K mg "_law_turns" s_law_turns ["hand", "network", "copies"] := def_mk X G a40 l40 c40 k40 fun _ _ _ _ _ _ us hl => match us, hl with | [_, _, _], _ => rfl
  have d_law_mixed_up : Def K mg "_law_mixed_up" s_law_mixed_up ["hand", "network"] := def_mk X G a41 l41 c41 k41 fun _ _ _ _ _ _ us hl => match us, hl with | [_, _], _ => rfl
  have d_law_copies : Def K mg "_law_copies" s_law_copies ["hand", "colours", "p", "q", "most"] := def_mk X G a42 l42 c42 k42 fun _ _ _ _ _ _ us hl => match us, hl with | [_, _, _, _, _], _ => rfl
  have d_law_refused : Def K mg "_law_refused" s_law_refused ["network", "first"] := def_mk X G a43 l43 c43 k43 fun _ _ _ _ _ _ us hl => match us, hl with | [_, _], _ => rfl
  have d_law_alike_views : Def K mg "_law_alike_views" s_law_alike_views ["network", "numbers"] := def_mk X G a44 l44 c44 k44 fun _ _ _ _ _ _ us hl => match us, hl with | [_, _], _ => rfl
  have d_law_right : Def K mg "_law_right" s_law_right ["network"] := def_mk X G a45 l45 c45 k45 fun _ _ _ _ _ _ us hl => match us, hl with | [_], _ => rfl
  have d_law_asked : Def K mg "_law_asked" s_law_asked ["script"] := def_mk X G a46 l46 c46 k46 fun _ _ _ _ _ _ us hl => match us, hl with | [_], _ => rfl
  refine ⟨PySem.W.fnOf "law" "law" (defArgs slaw) (defBody slaw) (defScope slaw) .none kV47 dc47 pm47 an47 cd47 ct47, fun s v => .of_eq rfl, fun base _ _ => ?_⟩
  have gtake : Has l.prog w K mg base CX0 1 "_law_take" ["hand", "many"] (spTakeN K) := takeN (d_law_take.has fun f fd F => ok_take B F)
  have gdraws : Has l.prog w K mg base CX0 1 "_law_draws" ["script", "many"] (spDraws K) := d_law_draws.has fun f fd F => ok_draws B F
  have gnum : Has l.prog w K mg base CX0 1 "is_number" ["value", "low", "high"] (spNumber K) := dis_number.has fun f fd F => ok_number B F
  have goth : Has l.prog w K mg base CX0 1 "other_side" ["side"] (spOther K) := dother_side.has fun f fd F => ok_other F
  have ginp : Has l.prog w K mg base CX0 1 "inputs_of" ["network", "side"] (spInputs K) := dinputs_of.has fun f fd F => ok_inputs F
  have gends : Has l.prog w K mg base CX0 1 "ends_of" ["network"] (spEnds K) := dends_of.has fun f fd F => ok_ends B F
  have gnums : Has l.prog w K mg base CX0 2 "_are_numbers" ["value", "many", "most"] (spNums K) := d_are_numbers.has fun f fd F => ok_nums B gnum F
  have gord : Has l.prog w K mg base CX0 3 "is_order" ["value", "many"] (spOrd K) := dis_order.has fun f fd F => ok_ord B gnums F
  have gisn : Has l.prog w K mg base CX0 4 "is_network" ["value", "p", "q"] (spIsNet K) := dis_network.has fun f fd F => ok_isnet B T gnum gord gnums F
  have gplain : Has l.prog w K mg base (L2.CX l.prog w) 5 "check_plain" ["network"] (spPlain K CBadNetwork) := dcheck_plain.has fun f fd F => ok_plain T eBadNetwork gisn F
  have gn0 : Has l.prog w K mg base CX0 1 "_numbered" ["signs"] (spNum0 K) := d_numbered.has fun f fd F => ok_num0 B F
  have gnT : Has l.prog w K mg base CX0 1 "_numbered" ["signs"] (spNumT K) := d_numbered.has fun f fd F => ok_numT B F
  have gsig : Has l.prog w K mg base CX0 2 "_signs" ["parted", "ends", "side"] (spSigns K) := d_signs.has fun f fd F => ok_signs B goth F
  have gcnt : Has l.prog w K mg base CX0 1 "_count" ["parted"] (spCount K) := d_count.has fun f fd F => ok_count B F
  have gkin : Has l.prog w K mg base (L2.CX l.prog w) 6 "kinds" ["network"] (spKinds K CBadNetwork) := dkinds.has fun f fd F => ok_kinds B hSIDES zS gplain gends ginp gn0 gnT gsig gcnt F
  have kkin : HasK l.prog w K mg base (L2.CX l.prog w) 6 "kinds" ["network"] (spKinds K CBadNetwork) := kkinds.has fun f fd F => ok_kinds B hSIDES zS gplain gends ginp gn0 gnT gsig gcnt F
  have ginat : Has l.prog w K mg base CX0 1 "_inputs_at" ["inputs", "nodes"] (spInAt K) := d_inputs_at.has fun f fd F => ok_inat B F
  have gbof : Has l.prog w K mg base (L2.CX l.prog w) 7 "base_of" ["network"] (spBaseOf K CBadNetwork) := dbase_of.has fun f fd F => ok_baseof B gkin ginat F
  have kbof : HasK l.prog w K mg base (L2.CX l.prog w) 7 "base_of" ["network"] (spBaseOf K CBadNetwork) := kbase_of.has fun f fd F => ok_baseof B gkin ginat F
  have gwh : Has l.prog w K mg base CX0 1 "_law_whole" ["found"] (spWhole K) := d_law_whole.has fun f fd F => ok_whole B F
  have glike : Has l.prog w K mg base CX0 13 "_law_like" ["found", "due"] (spLike K 12) := has_like B d_law_like gwh 12
  have gpop : Has l.prog w K mg base CX0 2 "_law_order" ["hand", "many"] (spPopOrder K) := d_law_order.has fun f fd F => ok_poporder B gtake F
  have gnet : Has l.prog w K mg base CX0 3 "_law_network" ["hand", "colours", "many", "p", "q"] (spNet5 K) := d_law_network.has fun f fd F => ok_net5 B gtake gpop F
  have gbeh : Has l.prog w K mg base CX0 1 "_law_behind" ["network", "side", "node", "colour"] (spBehindI K) := d_law_behind.has fun f fd F => ok_behindI B F
  have gbra : Has l.prog w K mg base CX0 7 "_law_branch" ["network", "side", "node", "reach", "colour"] (spBranch K 6) := has_branch B d_law_branch gbeh 6
  have gtur : Has l.prog w K mg base CX0 3 "_law_turns" ["hand", "network", "copies"] (spTurns K) := d_law_turns.has fun f fd F => ok_turns B gpop F
  have gcov : Has l.prog w K mg base CX0 1 "_law_cover" ["network", "turns"] (spCover K) := d_law_cover.has fun f fd F => ok_cover B F
  have gmix : Has l.prog w K mg base CX0 3 "_law_mixed_up" ["hand", "network"] (spMixed K) := d_law_mixed_up.has fun f fd F => ok_mixed B gpop F
  have gcop : Has l.prog w K mg base CX0 4 "_law_copies" ["hand", "colours", "p", "q", "most"] (spCopies K) := d_law_copies.has fun f fd F => ok_copies B gtake gnet gtur gcov gmix F
  have gwnet : Has l.prog w K mg base CX0 2 "_law_wrong_network" ["hand", "network"] (spWrongNet K) := d_law_wrong_network.has fun f fd F => ok_wrongnet B gtake F
  have gcou : Has l.prog w K mg base CX0 1 "_law_counted" ["marks"] (spCounted K) := d_law_counted.has fun f fd F => ok_counted B F
  have glk : Has l.prog w K mg base CX0 2 "_law_kinds" ["network"] (spLKinds K) := d_law_kinds.has fun f fd F => ok_lkinds B gbeh gcou F
  have glb : Has l.prog w K mg base CX0 3 "_law_base" ["network"] (spLBase K) := d_law_base.has fun f fd F => ok_lbase B glk F
  have gref : Has l.prog w K mg base CX0 8 "_law_refused" ["network", "first"] (spRef35 K) := d_law_refused.has fun f fd F => ok_ref35 B eBadNetwork hBadNetworkBadNetwork gkin gbof F
  have gali : Has l.prog w K mg base CX0 8 "_law_alike_views" ["network", "numbers"] (spAlike K) := d_law_alike_views.has fun f fd F => ok_alike B gbra F
  have gright : Has l.prog w K mg base CX0 14 "_law_right" ["network"] (spRight35 K) := d_law_right.has fun f fd F => ok_right B glk gali glike gkin gbof glb F
  have gask : Has l.prog w K mg base CX0 15 "_law_asked" ["script"] (spLaw K) := d_law_asked.has fun f fd F => ok_asked B gdraws gtake gnet gcop gright gwnet gref glike glk glb kkin kbof F
  exact FnG.of (ok_law B eLookError gask (fun_mk l47 c47 k47))
end Lw
open PySem PySem.W PyProof.Rows
set_option maxRecDepth 100000 in
set_option maxHeartbeats 0 in
theorem PySem.Challenge.cw_looksfar_k35_kinds_holds : PySem.Challenge.rw_looksfar_k35_kinds.Holds := by
  w_on; o_law; k_head; (case hw => w_witness2)
  k_fill
  refine LG.walk_G (l := PySem.Challenge.rw_looksfar_k35_kinds) (n := 63) (k := 16) (sp := Lw.spLaw) (x := "script") rfl (by decide) rfl ⟨rfl, by decide, by decide⟩ (fun w h Y => PySem.W.kIn_of Y) ?F (fun K H a ns hl _ hS => ⟨a, ns, rfl, hS, hl, fun _ => rfl⟩)
  case F =>
    intro w mg fa h KX G hmg
    refine' Lw.all_mk KX G hmg ?a4 ?l4 ?c4 ?k4 ?a10 ?l10 ?c10 ?k10 ?a13 ?l13 ?c13 ?k13 ?a14 ?l14 ?c14 ?k14 ?a15 ?l15 ?c15 ?k15 ?a16 ?l16 ?c16 ?k16 ?a17 ?l17 ?c17 ?k17 ?a19 ?l19 ?c19 ?k19 ?a20 ?l20 ?c20 ?k20 ?a21 ?l21 ?c21 ?k21 ?a22 ?l22 ?c22 ?k22 ?a23 ?l23 ?c23 ?k23 ?a24 ?l24 ?c24 ?k24 ?a25 ?l25 ?c25 ?k25 ?a27 ?l27 ?c27 ?k27 ?a28 ?l28 ?c28 ?k28 ?a29 ?l29 ?c29 ?k29 ?a30 ?l30 ?c30 ?k30 ?a31 ?l31 ?c31 ?k31 ?a32 ?l32 ?c32 ?k32 ?a33 ?l33 ?c33 ?k33 ?a34 ?l34 ?c34 ?k34 ?a35 ?l35 ?c35 ?k35 ?a36 ?l36 ?c36 ?k36 ?a37 ?l37 ?c37 ?k37 ?a38 ?l38 ?c38 ?k38 ?a39 ?l39 ?c39 ?k39 ?a40 ?l40 ?c40 ?k40 ?a41 ?l41 ?c41 ?k41 ?a42 ?l42 ?c42 ?k42 ?a43 ?l43 ?c43 ?k43 ?a44 ?l44 ?c44 ?k44 ?a45 ?l45 ?c45 ?k45 ?a46 ?l46 ?c46 ?k46 ?a47 ?l47 ?c47 ?k47 ?gBadNetwork ?xBadNetwork ?kBadNetwork ?bBadNetwork ?tBadNetwork ?iBadNetwork ?gLookError ?xLookError ?kLookError ?bLookError ?tLookError ?iLookError ?sBadNetworkBadNetwork ?gSIDES ?zS ?zabs ?zint ?zlen ?zrange ?ztuple ?zisinstance ?zbool ?zlist ?zstr ?zall ?zset ?zmax ?zsum ?zenumerate ?qLEAST_COLOURS ?qMOST_COLOURS ?qMOST_INPUTS ?qMOST_NODES
    (case a4 => k_is)
    (case l4 => k_is)
    (case c4 => k_is)
    (case k4 => k_is)
    (case a10 => k_is)
    (case l10 => k_is)
    (case c10 => k_is)
    (case k10 => k_is)
    (case a13 => k_is)
    (case l13 => k_is)
    (case c13 => k_is)
    (case k13 => k_is)
    (case a14 => k_is)
    (case l14 => k_is)
    (case c14 => k_is)
    (case k14 => k_is)
    (case a15 => k_is)
    (case l15 => k_is)
    (case c15 => k_is)
    (case k15 => k_is)
    (case a16 => k_is)
    (case l16 => k_is)
    (case c16 => k_is)
    (case k16 => k_is)
    (case a17 => k_is)
    (case l17 => k_is)
    (case c17 => k_is)
    (case k17 => k_is)
    (case a19 => k_is)
    (case l19 => k_is)
    (case c19 => k_is)
    (case k19 => k_is)
    (case a20 => k_is)
    (case l20 => k_is)
    (case c20 => k_is)
    (case k20 => k_is)
    (case a21 => k_is)
    (case l21 => k_is)
    (case c21 => k_is)
    (case k21 => k_is)
    (case a22 => k_is)
    (case l22 => k_is)
    (case c22 => k_is)
    (case k22 => k_is)
    (case a23 => k_is)
    (case l23 => k_is)
    (case c23 => k_is)
    (case k23 => k_is)
    (case a24 => k_is)
    (case l24 => k_is)
    (case c24 => k_is)
    (case k24 => k_is)
    (case a25 => k_is)
    (case l25 => k_is)
    (case c25 => k_is)
    (case k25 => k_is)
    (case a27 => k_is)
    (case l27 => k_is)
    (case c27 => k_is)
    (case k27 => k_is)
    (case a28 => k_is)
    (case l28 => k_is)
    (case c28 => k_is)
    (case k28 => k_is)
    (case a29 => k_is)
    (case l29 => k_is)
    (case c29 => k_is)
    (case k29 => k_is)
    (case a30 => k_is)
    (case l30 => k_is)
    (case c30 => k_is)
    (case k30 => k_is)
    (case a31 => k_is)
    (case l31 => k_is)
    (case c31 => k_is)
    (case k31 => k_is)
    (case a32 => k_is)
    (case l32 => k_is)
    (case c32 => k_is)
    (case k32 => k_is)
    (case a33 => k_is)
    (case l33 => k_is)
    (case c33 => k_is)
    (case k33 => k_is)
    (case a34 => k_is)
    (case l34 => k_is)
    (case c34 => k_is)
    (case k34 => k_is)
    (case a35 => k_is)
    (case l35 => k_is)
    (case c35 => k_is)
    (case k35 => k_is)
    (case a36 => k_is)
    (case l36 => k_is)
    (case c36 => k_is)
    (case k36 => k_is)
    (case a37 => k_is)
    (case l37 => k_is)
    (case c37 => k_is)
    (case k37 => k_is)
    (case a38 => k_is)
    (case l38 => k_is)
    (case c38 => k_is)
    (case k38 => k_is)
    (case a39 => k_is)
    (case l39 => k_is)
    (case c39 => k_is)
    (case k39 => k_is)
    (case a40 => k_is)
    (case l40 => k_is)
    (case c40 => k_is)
    (case k40 => k_is)
    (case a41 => k_is)
    (case l41 => k_is)
    (case c41 => k_is)
    (case k41 => k_is)
    (case a42 => k_is)
    (case l42 => k_is)
    (case c42 => k_is)
    (case k42 => k_is)
    (case a43 => k_is)
    (case l43 => k_is)
    (case c43 => k_is)
    (case k43 => k_is)
    (case a44 => k_is)
    (case l44 => k_is)
    (case c44 => k_is)
    (case k44 => k_is)
    (case a45 => k_is)
    (case l45 => k_is)
    (case c45 => k_is)
    (case k45 => k_is)
    (case a46 => k_is)
    (case l46 => k_is)
    (case c46 => k_is)
    (case k46 => k_is)
    (case a47 => k_is)
    (case l47 => k_is)
    (case c47 => k_is)
    (case k47 => k_is)
    (case gBadNetwork => k_is)
    (case xBadNetwork => k_exc)
    (case kBadNetwork => k_is)
    (case bBadNetwork => k_is)
    (case tBadNetwork => k_is)
    (case iBadNetwork => k_is)
    (case gLookError => k_is)
    (case xLookError => k_exc)
    (case kLookError => k_is)
    (case bLookError => k_is)
    (case tLookError => k_is)
    (case iLookError => k_is)
    (case sBadNetworkBadNetwork => first | rfl | k_is)
    (case gSIDES => k_is)
    (case zS => exact ⟨_, _, _, rfl, rfl, rfl, (by show 2 ≤ sizeLine; decide), .cons ⟨_, rfl⟩ (.cons ⟨_, rfl⟩ .nil)⟩)
    (case zabs => k_is)
    (case zint => k_is)
    (case zlen => k_is)
    (case zrange => k_is)
    (case ztuple => k_is)
    (case zisinstance => k_is)
    (case zbool => k_is)
    (case zlist => k_is)
    (case zstr => k_is)
    (case zall => k_is)
    (case zset => k_is)
    (case zmax => k_is)
    (case zsum => k_is)
    (case zenumerate => k_is)
    (case qLEAST_COLOURS => k_is)
    (case qMOST_COLOURS => k_is)
    (case qMOST_INPUTS => k_is)
    (case qMOST_NODES => k_is)
