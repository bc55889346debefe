import PyProof.Rows.All
import Wide.All
import OpenK.AllK
import Wide.FinOn
import HandS.ForMost
import HandS.Exc
import HandS.ExcOwn
import HandS.TryOnly
import HandS.WordsExc
import HandS.IsInst
import HandS.TupAny
import HandS.Wide
import HandS.TryMany
import KE.DataCmp
import KE.SortData
import HandS.Deep
import HandS.TupSets
import HandS.Zip
import PySem.Challenge.RW_looksfar_k03_row_allowed
set_option Elab.async false
set_option linter.all false
set_option maxRecDepth 100000
set_option maxHeartbeats 400000
/-! ### defs that are called where no repr runs around (guards known to be none) -/
namespace LG
open PySem PySem.Spec PyProof.Rows L2
/-- a def's promise, kept wherever no repr is under way -/
structure FnG (P : Program) (w : World) (K : PySem.W.Frag) (mg : Str → Option Value) (base : Heap) (k : Nat) (f : Addr) (fd : FuncData) (ps : List Str) (sp : Sp) : Prop where
  many : ∀ vs H Q E, sp vs H Q E → vs.length = ps.length
  goes : ∀ (A : Around) (outer : List Env) (s : Shared) (H : Hp) (us : List Value) (vs : List V) (Q : VK) (E : XK), A.guards = some [] → Room k A → Env0 P w K mg base A outer s H →
    BindsTo s fd ⟨us, []⟩ (ps.zip us) → Vals vs us → sp vs H Q E → codeAny (model P w) A (.call (.ref f) ⟨us, []⟩) (CR CX0 outer P w H s Q E) s
section
variable {P : Program} {w : World} {K : PySem.W.Frag} {mg : Str → Option Value} {base : Heap}
theorem FnG.of {k : Nat} {f : Addr} {fd : FuncData} {ps : List Str} {sp : Sp} (F : FnOk P w K mg base CX0 k f fd ps sp) : FnG P w K mg base k f fd ps sp :=
  ⟨F.len, fun A outer s H us vs Q E _ hr e0 hb r h => F.run A outer s H ⟨us, []⟩ us vs Q E hr e0 hb r h⟩
theorem FnG.more {j k : Nat} {f : Addr} {fd : FuncData} {ps : List Str} {sp : Sp} (F : FnG P w K mg base j f fd ps sp) (h : j ≤ k) : FnG P w K mg base k f fd ps sp :=
  ⟨F.many, fun A outer s H us vs Q E hg hr => F.goes A outer s H us vs Q E hg (hr.mono h)⟩
theorem FnG.by {x qual : Str} {st : Stmt} {f : Addr} {fd : FuncData} {N ps : List Str} {k : Nat} {sp : Sp} (F : Fun K x qual st f fd) (S : FnScope N ps (defScope st)) (many : ∀ vs H Q E, sp vs H Q E → vs.length = ps.length)
    (body : ∀ (cdv : Value) (A : Around) (outer : List Env) (s : Shared) (H : Hp) (vs : List V) (Q : VK) (E : XK), (A.deeper (envOfC qual (defScope st) s.heap.objs.size f cdv)).guards = some [] →
      Room k (A.deeper (envOfC qual (defScope st) s.heap.objs.size f cdv)) → sp vs H Q E →
      ∃ t, PSs (cxOf CX0 P w K mg base N qual (defScope st) f cdv A outer s H E).nox (defBody st) t ∧ t { nx := fun _ H' => Q .non H', rt := Q } (start N vs) H) : FnG P w K mg base (k + 1) f fd ps sp := by
  obtain ⟨_, _, _, _, _, _, cdv, _, _, rfl, lk, code⟩ := F.ex
  refine ⟨many, fun A outer s H us vs Q E guard room e0 bind rel hsp => ?_⟩
  have inK : K.In s.heap := e0.mod.kin.keeps fun b o e => (e0.bs b o e).1
  have noLim : s.heap.NoLimit := e0.mod.nolimit.keeps fun b o e => (e0.bs b o e).1
  obtain ⟨t, run, start⟩ := body cdv A outer s H vs Q E guard (room.deeper _) hsp
  refine codeAny_call_function room.depth (inK _ _ lk) rfl S.co S.gen rfl (PySem.W.codeRec_of inK code) (bind _ _ _ _ ?_)
  refine wpAny_newFunctionEnv_cells S.kind (fun y hy => ?_) fun env he s1 made => ?_
  · rcases S.par y.1 (List.of_mem_zip (show (y.1, y.2) ∈ ps.zip us from hy)).1 with q | q
    · exact Or.inl q
    · exact Or.inr ⟨q, PySem.W.cellsFrom_some _ _ _ (Or.inl q)⟩
  subst he
  refine ⟨noLim.keeps made.toInCall.keep, codeAny_func ?_⟩
  have inv := inv_start (CX := CX0) (E := E) S room.hd e0 (many _ _ _ _ hsp) rel made
  refine wpAny_mono (run.nox.run [] s1 (L2.start N vs) H _ inv start) (fun flow s' got => ?_) fun _ _ bad => bad
  cases flow with
  | ret u =>
    obtain ⟨v, _, H', J, rv, q⟩ := got
    exact ⟨v, H', J.os, J.bare, J.base, J.hok, rv, q⟩
  | next =>
    obtain ⟨_, H', J, q⟩ := got
    exact ⟨V.non, H', J.os, J.bare, J.base, J.hok, rfl, q⟩
  | brk =>
    obtain ⟨_, _, _, no⟩ := got
    exact no.elim
  | cont =>
    obtain ⟨_, _, _, no⟩ := got
    exact no.elim
end
section
variable {X : Cx} {k : Nat} {f : Addr} {fd : FuncData} {ps : List Str} {sp : Sp} {x : Str} {p pos : Pos} {e : Expr} {es : List Expr} {t : TA}
/-- f(e, ..) of such a def -/
theorem pe_callG (F : FnG X.prog X.w X.K X.mg X.base k f fd ps sp) (guard : X.A.guards = some []) (room : Room k X.A) (hg : Gl X x) (hm : X.mg x = some (.ref f)) (hk : PySem.W.keepIn X.K (.ref f) = true) (hb : Binds X.K fd ps [])
    (ha : PA X (e :: es) t) (hdb : (x == ("__debug__" : Str)) = false := by decide) (he : starEach (e :: es) X.env = (false, eval e X.env) :: starEach es X.env := by rfl) (hpl : (backTo pos (starEach es X.env)).any (·.1) = false := by rfl) :
    PE X (.Call (.Name x p) (e :: es) [] pos) (tCall sp [] E0 t) := by
  constructor
  intro pins s σ H Q inv want
  refine wpAny_Call_Name_kw (ld_glob inv hg hm ?_ hdb)
  refine PySem.W.callWith_K (h₀ := X.base) inv.ok.mod.kin hk (thn (ha.run pos pins s σ H _ inv want) fun us s1 got => ?_) he hpl
  obtain ⟨vs, H1, inv1, rel, q⟩ := got
  rw [List.append_nil] at q
  have many : us.length = ps.length := by rw [← rel.length]; exact F.many _ _ _ _ q
  have bind := hb s1 us inv1.kIn (by rw [List.append_nil]; exact many)
  rw [List.append_nil] at bind
  refine ⟨inv1.kIn, wpAny_call (codeAny_mono (F.goes X.A X.stack s1 H1 us vs Q E0 guard room inv1.env0 bind rel q) fun r s' end_ => ?_)⟩
  cases r with
  | error _ => exact False.elim end_
  | ok flow =>
    cases flow with
    | ret _ => exact inv1.after end_
    | next => exact False.elim end_
    | brk => exact False.elim end_
    | cont => exact False.elim end_
end
/-! ### repr of data -/
section
variable {X : Cx}
/-- repr(v), v data of any depth: its text -/
def rRep (K : PySem.W.Frag) : List V → Hp → VK → Prop := fun xs H Q => ∃ (v : V) (d : PyData), xs = [v] ∧ Dp K H v d ∧ d.showable = true ∧ d.depth ≤ 60 ∧ d.shown.length ≤ sizeLine ∧ Q (.str d.shown) H
theorem Dp.noDict {K : PySem.W.Frag} {H : Hp} : ∀ (d : PyData) (v : V), Dp K H v d → d.hasDict = false
  | .none, _, _ => by simp only [PyData.hasDict]
  | .bool _, _, _ => by simp only [PyData.hasDict]
  | .int _, _, _ => by simp only [PyData.hasDict]
  | .str _, _, _ => by simp only [PyData.hasDict]
  | .dict _, _, h => by cases h
  | .list ds, _, h => by
    cases h with
    | lst _ ha =>
      simp only [PyData.hasDict]
      exact go ds _ ha
  | .tuple ds, _, h => by
    cases h with
    | tup _ ha =>
      simp only [PyData.hasDict]
      exact go ds _ ha
where go {K : PySem.W.Frag} {H : Hp} : ∀ (ds : List PyData) (vs : List V), DpAll K H vs ds → PyData.hasDictAll ds = false
  | [], _, _ => by simp only [PyData.hasDictAll]
  | d :: ds, _, h => by
    cases h with
    | cons h1 h2 => simp only [PyData.hasDictAll, Dp.noDict d _ h1, go ds _ h2, Bool.or_self]
theorem call_rep (guard : X.A.guards = some []) (room : X.A.units + 64 < cLine) : CallR X (.builtin "repr") (rRep X.K) := by
  intro pins s σ H xs us Q inv rel want
  obtain ⟨v, d, rfl, hd, hs, hn, hz, q⟩ := want
  cases rel with
  | cons r0 rr =>
  rename_i u us'
  cases rr
  obtain ⟨as, reads⟩ := Dp.reads inv d v u hd r0
  have dict := PyData.noDict_hsm (as := as) (Dp.noDict d v hd)
  cases hd with
  | non =>
    cases r0
    exact PySem.P.repr_of_none ⟨.str _, H, inv.tok _, ⟨_, rfl⟩, by simpa only [PyData.shown] using q⟩
  | bl b =>
    cases r0
    refine PySem.P.repr_of_bool ⟨.str _, H, inv.tok _, ⟨_, rfl⟩, by simpa only [PyData.shown] using q⟩
  | int i =>
    obtain ⟨t, rfl⟩ := r0
    exact PySem.P.repr_of_int (by simpa [PyData.showable] using hs) ⟨.str _, H, inv.tok _, ⟨_, rfl⟩, by simpa only [PyData.shown] using q⟩
  | str x =>
    obtain ⟨t, rfl⟩ := r0
    exact PySem.P.repr_of_str ⟨.str _, H, inv.tok _, ⟨_, rfl⟩, by simpa only [PyData.shown] using q⟩ (by simpa only [PyData.shown] using hz)
  | lst h1 h2 =>
    cases r0
    exact repr_of_reads' reads hs dict guard (by omega) (fun _ _ z => z) (fun h' u' tk keep => ⟨.str _, H, inv.kept keep, ⟨_, rfl⟩, q⟩) hz
  | tup h1 h2 =>
    cases r0
    exact repr_of_reads' reads hs dict guard (by omega) (fun _ _ z => z) (fun h' u' tk keep => ⟨.str _, H, inv.kept keep, ⟨_, rfl⟩, q⟩) hz
end
end LG
/-! ### the end: the law's promise, at the heap behind the top -/
namespace LG
open PySem PySem.W PySem.Spec PyProof.Rows L2
section
variable {P : Program} {w : World} {K : PySem.W.Frag} {mg mb : Str → Option Value} {k : Nat} {fa a : Addr} {fd : FuncData} {x : Str} {sp : Sp} {s : Shared} {vs : List Value} {ns : List Int}
/-- the call from an abstract heap that tracks at most the script -/
theorem end_from (inK : K.In s.heap) (mains : s.heap.Ns mainGlobals mg) (blts : s.heap.Ns builtinsNs mb) (boot : ∀ y : Str, y ≠ "__name__" → mb y = bootBuiltins y) (noLim : s.heap.NoLimit) (gens : s.gens = #[])
    (obj : s.heap.get? a = some { cls := .type "list", data := .seq vs.toArray }) (room : Room k callerA) (goesF : ∀ base : Heap, K.In base → base.Ns mainGlobals mg → FnG P w K mg base k fa fd [x] sp)
    (bind : ∀ (s : Shared) (u : Value), BindsTo s fd ⟨[u], []⟩ [(x, u)]) (H : Hp) (only : Only H) (held : HOk P w H s.heap) (alone : ∀ b, H b ≠ none → b = a) (away : H a ≠ none → K.lookup a = none)
    (want : sp [.ref a] H (fun v _ => v = .bl true) E0) :
    codeAny (model P w) callerA (.call (.ref fa) ⟨[.ref a], []⟩) (fun r s' => r = .ok (.ret (.bool true)) ∧ OldK s.heap s'.heap ∧ s'.os = s.os ∧ AllBare s'.gens) s := by
  have free : ∀ {b : Addr} {o : Obj}, s.heap.get? b = some o → (b = a → o ≠ { cls := .type "list", data := .seq vs.toArray }) → H b = none := fun {b o} e far => by
    cases q : H b with
    | none => rfl
    | some u =>
      have here : b = a := alone b (by rw [q]; exact nofun)
      refine absurd ?_ (far here)
      rw [here, obj] at e
      exact (Option.some.inj e).symm
  have space : ∀ {b : Addr} {m : Str → Option Value}, s.heap.Ns b m → (hidT s.heap H).Ns b m := fun {b m} ⟨o, es, ep, e, d, more⟩ =>
    ⟨o, es, ep, hidT_get e (free e fun _ same => by rw [same] at d; exact nomatch d), d, more⟩
  have baseK : K.In (hidT s.heap H) := fun b o e => hidT_get (inK b o e) (by
    cases q : H b with
    | none => rfl
    | some u =>
      have here : b = a := alone b (by rw [q]; exact nofun)
      have no := away (by rw [← here, q]; exact nofun)
      rw [here, no] at e
      exact nomatch e)
  have lim : (hidT s.heap H).NoLimit := by
    obtain ⟨mc, h1, h2⟩ := noLim
    exact ⟨mc, space h1, h2⟩
  have modu : Mod K mg (hidT s.heap H) := ⟨baseK, space mains, ⟨mb, space blts, boot⟩, lim⟩
  have e0 : Env0 P w K mg (hidT s.heap H) callerA [] s H := ⟨rfl, modu, fun _ _ e => of_hidT e, Nat.le_of_eq (hidT_size _ _), trivial, (fun _ hb => absurd (show _ ∈ ([] : List Addr) from hb) List.not_mem_nil), held, .of_eq gens⟩
  refine codeAny_mono ((goesF _ baseK (space mains)).goes callerA [] s H [.ref a] [.ref a] _ E0 rfl room e0 (bind s (.ref a)) (.cons rfl .nil) want) fun r s' got => ?_
  cases r with
  | error _ => exact False.elim got
  | ok flow =>
  cases flow with
  | next => exact False.elim got
  | brk => exact False.elim got
  | cont => exact False.elim got
  | ret u =>
    obtain ⟨v, H', sameOs, bare, un, held', rel, yes⟩ := got
    have yes' : v = .bl true := yes
    subst yes'
    obtain rfl : u = Value.bool true := rel
    refine ⟨rfl, OldK.of_keep fun b o e => ?_, sameOs, bare⟩
    rcases only b with free | ⟨ob, xs, fz⟩
    · exact un.keep b o e free (fun z => nomatch z) (fun z => nomatch z)
    · obtain ⟨e1, _⟩ := held b _ fz
      obtain ⟨e2, _⟩ := held' b _ (un.frzs b ob _ fz)
      rw [e2, ← e1, e]
/-- .. from the script as it lies -/
theorem end_call (inK : K.In s.heap) (mains : s.heap.Ns mainGlobals mg) (blts : s.heap.Ns builtinsNs mb) (boot : ∀ y : Str, y ≠ "__name__" → mb y = bootBuiltins y) (noLim : s.heap.NoLimit) (gens : s.gens = #[])
    (obj : s.heap.get? a = some { cls := .type "list", data := .seq vs.toArray }) (numbs : PyProof.Rows.IntsAre vs ns) (small : ns.length ≤ sizeLine) (room : Room k callerA)
    (goesF : ∀ base : Heap, K.In base → base.Ns mainGlobals mg → FnG P w K mg base k fa fd [x] sp) (bind : ∀ (s : Shared) (u : Value), BindsTo s fd ⟨[u], []⟩ [(x, u)])
    (want : ∀ H : Hp, Only H → SqL K H a (ns.map V.int) → sp [.ref a] H (fun v _ => v = .bl true) E0) :
    codeAny (model P w) callerA (.call (.ref fa) ⟨[.ref a], []⟩) (fun r s' => r = .ok (.ret (.bool true)) ∧ OldK s.heap s'.heap ∧ s'.os = s.os ∧ AllBare s'.gens) s := by
  have rel := vals_ints numbs
  cases hk : K.lookup a with
  | some o =>
    have e := inK a o hk
    rw [obj] at e
    obtain rfl := Option.some.inj e
    have only : Only fun _ => none := fun _ => Or.inl rfl
    have held : HOk P w (fun _ => none) s.heap := fun _ _ z => nomatch z
    refine end_from inK mains blts boot noLim gens obj room goesF bind (fun _ => none) only held (fun _ z => absurd rfl z) (fun z => absurd rfl z) (want _ only ?_)
    exact Or.inr ⟨_, vs.toArray, _, hk, rfl, rfl, rfl, by rw [List.size_toArray, numbs.length]; exact small, by simpa using rel⟩
  | none =>
    let one : Hp := upd (fun _ => none) a (.frz { cls := .type "list", data := .seq vs.toArray } (.lst (ns.map V.int)))
    have at_a : one a = some (.frz { cls := .type "list", data := .seq vs.toArray } (.lst (ns.map V.int))) := upd_same
    have off_a : ∀ b, b ≠ a → one b = none := fun b hb => upd_ne hb
    have only : Only one := fun b => by
      by_cases hb : b = a
      · subst hb
        exact Or.inr ⟨_, _, at_a⟩
      · exact Or.inl (off_a b hb)
    have held : HOk P w one s.heap := fun b u z => by
      by_cases hb : b = a
      · subst hb
        rw [at_a] at z
        obtain rfl := Option.some.inj z
        exact ⟨obj, by rw [List.length_map]; exact small, vs, _, rel, obj⟩
      · rw [off_a b hb] at z
        exact nomatch z
    exact end_from inK mains blts boot noLim gens obj room goesF bind one only held (fun b z => Classical.byContradiction fun hb => z (off_a b hb)) (fun _ => hk) (want _ only (.inl (.inr ⟨_, at_a⟩)))
end
/-- what is left of the statement behind the head -/
theorem walk_G {l : PySem.W.OpenLaw} {n k : Nat} {q : Program} {loose : List Str} {XP : (Str → Option Value) → Heap → Prop} {YP : World → Heap → Prop} {d : DefRec} {K : Params → PySem.W.Frag} {sp : PySem.W.Frag → Sp} {x : Str}
    (hn : l.most = some n) (small : n ≤ sizeLine) (plain : d.params.defaults = []) (room : Room k callerA) (hY : ∀ (w : World) (h : Heap), YP w h → (K w.params).In h)
    (F : ∀ (w : World) (mg : Str → Option Value) (fa : Addr) (h : Heap), (K w.params).In h → h.Ns mainGlobals mg → mg d.name = some (.ref fa) →
      ∃ fd : FuncData, (∀ (s : Shared) (u : Value), BindsTo s fd ⟨[u], []⟩ [(x, u)]) ∧ ∀ base : Heap, (K w.params).In base → base.Ns mainGlobals mg → FnG l.prog w (K w.params) mg base k fa fd [x] (sp (K w.params)))
    (want : ∀ (K : PySem.W.Frag) (H : Hp) (a : Addr) (ns : List Int), ns.length ≤ n → Only H → SqL K H a (ns.map V.int) → sp K [.ref a] H (fun v _ => v = .bl true) E0) :
    PySem.W.WalkO q loose XP YP l.row.toRowW d [] (fun f vs => PySem.call f vs) := by
  refine Att.attach_call hn plain fun w s0 s1 mg mb fa o pm cd doc a vs ns ground told ho hd hcd hmg obj numbs many gens => ?_
  have inK := hY w _ told
  obtain ⟨fd, bind, goesF⟩ := F w mg fa _ inK ground.T.g hmg
  exact end_call inK ground.T.g ground.T.b ground.T.builtins ground.T.nolimit gens obj numbs (Nat.le_trans many small) room goesF bind fun H only held => want (K w.params) H a ns many only held
end LG
/-! ### sizes of data, data of tuples, heaps -/
namespace LG
open PySem PySem.Spec PyProof.Rows L2
/-- data whose text is short: at most m parts, h deep -/
def Sized (m h : Nat) (d : PyData) : Prop := d.leavesShort 40 = true ∧ d.showable = true ∧ d.depth ≤ h ∧ d.bulk ≤ m
theorem Sized.more {m m' h h' : Nat} {d : PyData} (s : Sized m h d) (hm : m ≤ m') (hh : h ≤ h') : Sized m' h' d := ⟨s.1, s.2.1, Nat.le_trans s.2.2.1 hh, Nat.le_trans s.2.2.2 hm⟩
theorem sized_all {m h : Nat} : ∀ {ds : List PyData}, (∀ d ∈ ds, Sized m h d) → PyData.leavesShortAll 40 ds = true ∧ PyData.showableAll ds = true ∧ PyData.depthAll ds ≤ h ∧ PyData.bulkAll ds ≤ ds.length * (m + 1)
  | [], _ => ⟨by simp only [PyData.leavesShortAll], by simp only [PyData.showableAll], by simp only [PyData.depthAll]; omega, by simp only [PyData.bulkAll]; omega⟩
  | d :: ds, hd => by
    obtain ⟨a1, a2, a3, a4⟩ := hd d List.mem_cons_self
    obtain ⟨b1, b2, b3, b4⟩ := sized_all fun e he => hd e (List.mem_cons_of_mem _ he)
    refine ⟨by simp only [PyData.leavesShortAll, a1, b1, Bool.and_self], by simp only [PyData.showableAll, a2, b2, Bool.and_self], by simp only [PyData.depthAll]; omega, ?_⟩
    simp only [PyData.bulkAll, List.length_cons, Nat.add_mul, Nat.one_mul] at b4 ⊢
    omega
theorem sized_tup {m h : Nat} {ds : List PyData} (hd : ∀ d ∈ ds, Sized m h d) : Sized (ds.length * (m + 1)) (h + 1) (.tuple ds) := by
  obtain ⟨a1, a2, a3, a4⟩ := sized_all hd
  exact ⟨by simpa only [PyData.leavesShort] using a1, by simpa only [PyData.showable] using a2, by simp only [PyData.depth]; omega, by simpa only [PyData.bulk] using a4⟩
theorem sized_lst {m h : Nat} {ds : List PyData} (hd : ∀ d ∈ ds, Sized m h d) : Sized (ds.length * (m + 1)) (h + 1) (.list ds) := by
  obtain ⟨a1, a2, a3, a4⟩ := sized_all hd
  exact ⟨by simpa only [PyData.leavesShort] using a1, by simpa only [PyData.showable] using a2, by simp only [PyData.depth]; omega, by simpa only [PyData.bulk] using a4⟩
theorem sized_non : Sized 0 0 .none := ⟨by simp only [PyData.leavesShort], by simp only [PyData.showable], by simp only [PyData.depth]; omega, by simp only [PyData.bulk]; omega⟩
theorem sized_bl (b : Bool) : Sized 0 0 (.bool b) := ⟨by simp only [PyData.leavesShort], by simp only [PyData.showable], by simp only [PyData.depth]; omega, by simp only [PyData.bulk]; omega⟩
/-- an int of few digits -/
theorem sized_int {i : Int} (h : i.natAbs < 10 ^ 39) : Sized 0 0 (.int i) := by
  have short : (PyData.shown (.int i)).length ≤ 40 := by
    simp only [PyData.shown]
    show (Str.ofString (toString i)).length ≤ 40
    rw [PySem.ofString_length]
    exact int_text_length_le10 (by decide) h
  refine ⟨by simpa only [PyData.leavesShort, decide_eq_true_eq] using short, ?_, by simp only [PyData.depth]; omega, by simp only [PyData.bulk]; omega⟩
  simp only [PyData.showable, decide_eq_true_eq]
  by_cases z : i.natAbs = 0
  · rw [z]; decide
  · exact Nat.lt_of_lt_of_le ((Nat.log2_lt z).mpr (Nat.lt_of_lt_of_le h (by decide : 10 ^ 39 ≤ 2 ^ 130))) (by decide)
/-- what repr asks -/
theorem Sized.rep {m h : Nat} {d : PyData} (s : Sized m h d) (hm : m ≤ 390000) (hh : h ≤ 60) : d.showable = true ∧ d.depth ≤ 60 ∧ d.shown.length ≤ sizeLine := by
  refine ⟨s.2.1, Nat.le_trans s.2.2.1 hh, ?_⟩
  have z := PyData.shown_le_bulk 40 (by decide) d s.1
  have z2 := s.2.2.2
  rw [sizeLine_eq]
  omega
/-- tuples stay -/
def TupsStay (H H' : Hp) : Prop := ∀ b o, (∃ xs, o = .tup xs) ∨ (∃ ob xs, o = .frz ob (.tup xs)) → H b = some o → H' b = some o
theorem TupsStay.trans {H H1 H2 : Hp} (a : TupsStay H H1) (b : TupsStay H1 H2) : TupsStay H H2 := fun c o h e => b c o h (a c o h e)
theorem TupsStay.refl (H : Hp) : TupsStay H H := fun _ _ _ e => e
theorem _root_.L2.Same.tups {H H' : Hp} (s : Same H H') : TupsStay H H' := fun b o _ e => s b o e
theorem TupsStay.seq {K : PySem.W.Frag} {H H' : Hp} {a : Addr} {xs : List V} (t : TupsStay H H') (h : SqT K H a xs) : SqT K H' a xs := by
  rcases h with (h | ⟨o, h⟩) | h
  · exact .inl (.inl (t _ _ (.inl ⟨_, rfl⟩) h))
  · exact .inl (.inr ⟨o, t _ _ (.inr ⟨_, _, rfl⟩) h⟩)
  · exact .inr h
theorem _root_.L2.Same.seqT {K : PySem.W.Frag} {H H' : Hp} {a : Addr} {xs : List V} (s : Same H H') (h : SqT K H a xs) : SqT K H' a xs := (Same.tups s).seq h
theorem tups_lst {H : Hp} {p : Addr} {xs ys : List V} (h : H p = some (.lst xs)) : TupsStay H (upd H p (.lst ys)) := fun b o hk e => by
  rw [upd_ne (ne_of e h ?_)]
  · exact e
  · rcases hk with ⟨_, rfl⟩ | ⟨_, _, rfl⟩ <;> exact nofun
theorem same_new {H : Hp} {p : Addr} (h : H p = none) (o : HO) : Same H (upd H p o) := fun b u e => by
  rw [upd_ne (ne_of_none e h)]
  exact e
/-- a list that was made since changes -/
theorem same_own {H H' : Hp} {p : Addr} (s : Same H H') (h : H p = none) (o : HO) : Same H (upd H' p o) := fun b u e => by
  rw [upd_ne (ne_of_none e h)]
  exact s b u e
mutual
/-- data without lists -/
inductive Dt (K : PySem.W.Frag) (H : Hp) : V → PyData → Prop
  | non : Dt K H .non .none
  | bl (b : Bool) : Dt K H (.bl b) (.bool b)
  | int (i : Int) : Dt K H (.int i) (.int i)
  | str (x : Str) : Dt K H (.str x) (.str x)
  | tup {a : Addr} {xs : List V} {ds : List PyData} : SqT K H a xs → DtAll K H xs ds → Dt K H (.ref a) (.tuple ds)
inductive DtAll (K : PySem.W.Frag) (H : Hp) : List V → List PyData → Prop
  | nil : DtAll K H [] []
  | cons {v : V} {vs : List V} {d : PyData} {ds : List PyData} : Dt K H v d → DtAll K H vs ds → DtAll K H (v :: vs) (d :: ds)
end
section
variable {K : PySem.W.Frag} {H H' : Hp}
mutual
theorem Dt.dp : ∀ {v : V} {d : PyData}, Dt K H v d → Dp K H v d
  | _, _, .non => .non
  | _, _, .bl b => .bl b
  | _, _, .int i => .int i
  | _, _, .str x => .str x
  | _, _, .tup h a => .tup h a.dp
theorem DtAll.dp : ∀ {vs : List V} {ds : List PyData}, DtAll K H vs ds → DpAll K H vs ds
  | _, _, .nil => .nil
  | _, _, .cons h a => .cons h.dp a.dp
end
mutual
theorem Dt.stay (t : TupsStay H H') : ∀ {v : V} {d : PyData}, Dt K H v d → Dt K H' v d
  | _, _, .non => .non
  | _, _, .bl b => .bl b
  | _, _, .int i => .int i
  | _, _, .str x => .str x
  | _, _, .tup h a => .tup (t.seq h) (a.stay t)
theorem DtAll.stay (t : TupsStay H H') : ∀ {vs : List V} {ds : List PyData}, DtAll K H vs ds → DtAll K H' vs ds
  | _, _, .nil => .nil
  | _, _, .cons h a => .cons (h.stay t) (a.stay t)
end
theorem DtAll.len : ∀ {vs : List V} {ds : List PyData}, DtAll K H vs ds → vs.length = ds.length
  | _, _, .nil => rfl
  | _, _, .cons _ a => by rw [List.length_cons, List.length_cons, a.len]
theorem DtAll.at : ∀ {vs : List V} {ds : List PyData} {i : Nat} {d : PyData}, DtAll K H vs ds → ds[i]? = some d → ∃ v, vs[i]? = some v ∧ Dt K H v d
  | _, _, _, _, .nil, e => by simp at e
  | _, _, 0, _, .cons h _, e => by simp at e; subst e; exact ⟨_, rfl, h⟩
  | _, _, i + 1, d, .cons _ a, e => by simpa using a.at (i := i) (by simpa using e)
theorem DtAll.of : ∀ {vs : List V} {ds : List PyData} {i : Nat} {v : V}, DtAll K H vs ds → vs[i]? = some v → ∃ d, ds[i]? = some d ∧ Dt K H v d
  | _, _, _, _, .nil, e => by simp at e
  | _, _, 0, _, .cons h _, e => by simp at e; subst e; exact ⟨_, rfl, h⟩
  | _, _, i + 1, d, .cons _ a, e => by simpa using a.of (i := i) (by simpa using e)
theorem DtAll.app : ∀ {vs ws : List V} {ds es : List PyData}, DtAll K H vs ds → DtAll K H ws es → DtAll K H (vs ++ ws) (ds ++ es)
  | _, _, _, _, .nil, b => b
  | _, _, _, _, .cons h a, b => .cons h (a.app b)
theorem DtAll.take : ∀ {vs : List V} {ds : List PyData} (n : Nat), DtAll K H vs ds → DtAll K H (vs.take n) (ds.take n)
  | _, _, 0, _ => .nil
  | _, _, _ + 1, .nil => .nil
  | _, _, n + 1, .cons h a => .cons h (a.take n)
theorem DtAll.drop : ∀ {vs : List V} {ds : List PyData} (n : Nat), DtAll K H vs ds → DtAll K H (vs.drop n) (ds.drop n)
  | _, _, 0, a => a
  | _, _, _ + 1, .nil => .nil
  | _, _, n + 1, .cons _ a => a.drop n
theorem DtAll.ints : ∀ (ns : List Int), DtAll K H (ns.map V.int) (ns.map PyData.int)
  | [] => .nil
  | n :: ns => .cons (.int n) (DtAll.ints ns)
theorem item_of {ns : List Int} {i : Nat} {y : V} (hi : (ns.map V.int)[i]? = some y) : ∃ z, ns[i]? = some z ∧ y = V.int z := by
  rw [List.getElem?_map] at hi
  cases e : ns[i]? with
  | none => rw [e] at hi; cases hi
  | some z => rw [e] at hi; exact ⟨z, rfl, (Option.some.inj hi).symm⟩
theorem take_more {α : Type} : ∀ {l : List α} {i : Nat} {x : α}, l[i]? = some x → l.take (i + 1) = l.take i ++ [x]
  | [], i, x, h => by simp at h
  | a :: l, 0, x, h => by simp at h; simp [h]
  | a :: l, i + 1, x, h => by
    have ih := take_more (l := l) (i := i) (x := x) (by simpa using h)
    simp [ih]
end
end LG
/-! ### a def of the text with its promise, by its name -/
namespace LG
open PySem PySem.Spec PyProof.Rows L2
/-- the def of this name, the place hidden -/
structure Has (P : Program) (w : World) (K : PySem.W.Frag) (mg : Str → Option Value) (base : Heap) (CX : CXT) (k : Nat) (x : Str) (ps : List Str) (sp : Sp) : Prop where
  ex : ∃ (f : Addr) (fd : FuncData), FnOk P w K mg base CX k f fd ps sp ∧ mg x = some (.ref f) ∧ PySem.W.keepIn K (.ref f) = true ∧ Binds K fd ps []
structure HasG (P : Program) (w : World) (K : PySem.W.Frag) (mg : Str → Option Value) (base : Heap) (k : Nat) (x : Str) (ps : List Str) (sp : Sp) : Prop where
  ex : ∃ (f : Addr) (fd : FuncData), FnG P w K mg base k f fd ps sp ∧ mg x = some (.ref f) ∧ PySem.W.keepIn K (.ref f) = true ∧ Binds K fd ps []
/-- the def as the top has left it -/
structure Def (K : PySem.W.Frag) (mg : Str → Option Value) (x : Str) (st : Stmt) (ps : List Str) : Prop where
  ex : ∃ (f : Addr) (fd : FuncData), Fun K x x st f fd ∧ mg x = some (.ref f) ∧ Binds K fd ps []
section
variable {P : Program} {w : World} {K : PySem.W.Frag} {mg : Str → Option Value} {base : Heap} {CX : CXT} {k : Nat} {x : Str} {ps : List Str} {sp : Sp} {st : Stmt}
theorem Def.has (d : Def K mg x st ps) (h : ∀ (f : Addr) (fd : FuncData), Fun K x x st f fd → FnOk P w K mg base CX k f fd ps sp) : Has P w K mg base CX k x ps sp := by
  obtain ⟨f, fd, F, m, b⟩ := d.ex
  exact ⟨f, fd, h f fd F, m, F.kp, b⟩
theorem Def.hasG (d : Def K mg x st ps) (h : ∀ (f : Addr) (fd : FuncData), Fun K x x st f fd → FnG P w K mg base k f fd ps sp) : HasG P w K mg base k x ps sp := by
  obtain ⟨f, fd, F, m, b⟩ := d.ex
  exact ⟨f, fd, h f fd F, m, F.kp, b⟩
theorem Has.more {j : Nat} (h : Has P w K mg base CX k x ps sp) (hj : k ≤ j) : Has P w K mg base CX j x ps sp := by
  obtain ⟨f, fd, F, r⟩ := h.ex
  exact ⟨f, fd, F.mono hj, r⟩
theorem Has.imp {sp' : Sp} (h : Has P w K mg base CX k x ps sp) (i : ∀ vs H Q E, sp' vs H Q E → sp vs H Q E) : Has P w K mg base CX k x ps sp' := by
  obtain ⟨f, fd, F, r⟩ := h.ex
  exact ⟨f, fd, F.imp i, r⟩
end
section
variable {X : Cx} {k j : Nat} {ps : List Str} {sp : Sp} {x : Str} {p pos : Pos} {e : Expr} {es : List Expr} {t : TA}
/-- its call: nothing is raised -/
theorem pc (h : Has X.prog X.w X.K X.mg X.base CX0 k x ps sp) (hr : Room j X.A) (ha : PA X (e :: es) t) (hg : Gl X x := by rfl) (hj : k ≤ j := by first | decide | omega) (hdb : (x == ("__debug__" : Str)) = false := by decide)
    (he : starEach (e :: es) X.env = (false, eval e X.env) :: starEach es X.env := by rfl) (hpl : (backTo pos (starEach es X.env)).any (·.1) = false := by rfl) : PE X (.Call (.Name x p) (e :: es) [] pos) (tCall sp [] E0 t) := by
  obtain ⟨f, fd, F, m, kp, b⟩ := h.ex
  exact pe_call F (hr.mono hj) hg m kp b .nil pass0 ha hdb he hpl
theorem pcX (h : Has X.prog X.w X.K X.mg X.base (L2.CX X.prog X.w) k x ps sp) (hr : Room j X.A) (ha : PA X (e :: es) t) (hg : Gl X x := by rfl) (hj : k ≤ j := by first | decide | omega) (hdb : (x == ("__debug__" : Str)) = false := by decide)
    (he : starEach (e :: es) X.env = (false, eval e X.env) :: starEach es X.env := by rfl) (hpl : (backTo pos (starEach es X.env)).any (·.1) = false := by rfl) : PE X (.Call (.Name x p) (e :: es) [] pos) (tCall sp [] E0 t) := by
  obtain ⟨f, fd, F, m, kp, b⟩ := h.ex
  exact pe_call F (hr.mono hj) hg m kp b .nil passL ha hdb he hpl
theorem pcG (h : HasG X.prog X.w X.K X.mg X.base k x ps sp) (guard : X.A.guards = some []) (hr : Room j X.A) (ha : PA X (e :: es) t) (hg : Gl X x := by rfl) (hj : k ≤ j := by first | decide | omega) (hdb : (x == ("__debug__" : Str)) = false := by decide)
    (he : starEach (e :: es) X.env = (false, eval e X.env) :: starEach es X.env := by rfl) (hpl : (backTo pos (starEach es X.env)).any (·.1) = false := by rfl) : PE X (.Call (.Name x p) (e :: es) [] pos) (tCall sp [] E0 t) := by
  obtain ⟨f, fd, F, m, kp, b⟩ := h.ex
  exact pe_callG F guard (hr.mono hj) hg m kp b ha hdb he hpl
/-- its call: what it raises leaves this def too -/
theorem pcE {E : XK} (h : Has X.prog X.w X.K X.mg X.base (L2.CX X.prog X.w) k x ps sp) (hr : Room j X.A) (tk : Takes X (fun cls d _ H => E cls d H)) (ha : PA X (e :: es) t) (hg : Gl X x := by rfl) (hj : k ≤ j := by first | decide | omega) (hdb : (x == ("__debug__" : Str)) = false := by decide)
    (he : starEach (e :: es) X.env = (false, eval e X.env) :: starEach es X.env := by rfl) (hpl : (backTo pos (starEach es X.env)).any (·.1) = false := by rfl) : PE X (.Call (.Name x p) (e :: es) [] pos) (tCall sp [] E t) := by
  obtain ⟨f, fd, F, m, kp, b⟩ := h.ex
  exact pe_call F (hr.mono hj) hg m kp b .nil (passes_call tk fun _ _ _ _ z => z) ha hdb he hpl
/-- its call within a try's body: what it raises is wished for -/
theorem pcS {W : WX} (h : Has X.prog X.w X.K X.mg X.base (L2.CX X.prog X.w) k x ps sp) (hr : Room j X.A) (tk : Takes X W) (ha : PA X (e :: es) t) (hg : Gl X x := by rfl) (hj : k ≤ j := by first | decide | omega) (hdb : (x == ("__debug__" : Str)) = false := by decide)
    (he : starEach (e :: es) X.env = (false, eval e X.env) :: starEach es X.env := by rfl) (hpl : (backTo pos (starEach es X.env)).any (·.1) = false := by rfl) : PE X (.Call (.Name x p) (e :: es) [] pos) (tCallS sp (WE W) t) := by
  obtain ⟨f, fd, F, m, kp, b⟩ := h.ex
  exact pe_callS F (hr.mono hj) hg m kp b (fun σ => passAt tk σ) ha hdb he hpl
end
/-! ### places in lists of ints -/
theorem ix_of {n : Nat} {i : Int} (h0 : 0 ≤ i) (h1 : i < n) : ixN n i = some i.toNat := by
  unfold ixN
  rw [if_pos h0, if_pos h1]
theorem at_int {ns : List Int} {i : Int} (h0 : 0 ≤ i) (h1 : i < ns.length) : ∃ z, ns[i.toNat]? = some z ∧ z ∈ ns ∧ atI (ns.map V.int) i = some (.int z) := by
  have lt : i.toNat < ns.length := by omega
  refine ⟨ns[i.toNat], by simp, List.getElem_mem _, ?_⟩
  refine at_of (j := i.toNat) (by omega) ?_
  rw [List.getElem?_map]
  simp
theorem dec_t {p : Prop} [Decidable p] (h : decide p = true) : p := of_decide_eq_true h
theorem dec_f {p : Prop} [Decidable p] (h : ¬ decide p = true) : ¬ p := fun z => h (decide_eq_true z)
end LG
namespace LG
open PySem PySem.Spec PyProof.Rows L2
section
variable {X : Cx}
/-- == and != of ints -/
theorem op_eqi : OpR X (compareOp .Eq) (rI0 fun i j => .bl (decide (i = j))) := by
  intro pins s σ H x y v u Q inv rx ry want
  obtain ⟨i, j, rfl, rfl, q⟩ := want
  refine op_eq pins s σ H _ _ v u Q inv rx ry ⟨rfl, ?_⟩
  rw [show decide (V.int i = V.int j) = decide (i = j) from decide_eq_decide.mpr ⟨fun z => V.int.inj z, fun z => congrArg V.int z⟩]
  exact q
theorem op_nei : OpR X (compareOp .NotEq) (rI0 fun i j => .bl (!decide (i = j))) := by
  intro pins s σ H x y v u Q inv rx ry want
  obtain ⟨i, j, rfl, rfl, q⟩ := want
  refine op_ne pins s σ H _ _ v u Q inv rx ry ⟨rfl, ?_⟩
  rw [show decide (V.int i = V.int j) = decide (i = j) from decide_eq_decide.mpr ⟨fun z => V.int.inj z, fun z => congrArg V.int z⟩]
  exact q
/-- == and != of texts -/
theorem op_eqs : OpR X (compareOp .Eq) (fun x y H Q => ∃ a b, x = .str a ∧ y = .str b ∧ Q (.bl (decide (a = b))) H) := by
  intro pins s σ H x y v u Q inv rx ry want
  obtain ⟨i, j, rfl, rfl, q⟩ := want
  refine op_eq pins s σ H _ _ v u Q inv rx ry ⟨rfl, ?_⟩
  rw [show decide (V.str i = V.str j) = decide (i = j) from decide_eq_decide.mpr ⟨fun z => V.str.inj z, fun z => congrArg V.str z⟩]
  exact q
theorem op_nes : OpR X (compareOp .NotEq) (fun x y H Q => ∃ a b, x = .str a ∧ y = .str b ∧ Q (.bl (!decide (a = b))) H) := by
  intro pins s σ H x y v u Q inv rx ry want
  obtain ⟨i, j, rfl, rfl, q⟩ := want
  refine op_ne pins s σ H _ _ v u Q inv rx ry ⟨rfl, ?_⟩
  rw [show decide (V.str i = V.str j) = decide (i = j) from decide_eq_decide.mpr ⟨fun z => V.str.inj z, fun z => congrArg V.str z⟩]
  exact q
end
/-! ### parts of tuples -/
theorem cut_last (xs : List V) (v : V) : cutV (xs ++ [v]) none (some (-1)) = xs := by
  unfold cutV HT.sIx
  simp only [List.length_append, List.length_singleton]
  rw [if_pos (by decide)]
  rw [List.drop_zero, show ((-1 + ((xs.length + 1 : Nat) : Int)).toNat - 0) = xs.length from by omega]
  simp
theorem cut_last_whole (xs : List V) (v : V) : ¬ (HT.sIx (xs ++ [v]).length 0 none = 0 ∧ HT.sIx (xs ++ [v]).length (xs ++ [v]).length (some (-1)) = (xs ++ [v]).length) := by
  unfold HT.sIx
  simp only [List.length_append, List.length_singleton]
  rw [if_pos (by decide)]
  omega
theorem cut_to (xs : List V) (n : Nat) : cutV xs none (some (n : Int)) = xs.take n := by
  unfold cutV
  rw [HT.sIx_none, HT.sIx_nat, List.drop_zero, Nat.sub_zero]
  rcases Nat.le_total n xs.length with h | h
  · rw [Nat.min_eq_left h]
  · rw [Nat.min_eq_right h, List.take_of_length_le (Nat.le_refl _), List.take_of_length_le h]
theorem cut_from (xs : List V) (n : Nat) : cutV xs (some (n : Int)) none = xs.drop n := by
  unfold cutV
  rw [HT.sIx_none, HT.sIx_nat]
  rcases Nat.le_total n xs.length with h | h
  · rw [Nat.min_eq_left h, List.take_of_length_le (by rw [List.length_drop]; exact Nat.le_refl _)]
  · rw [Nat.min_eq_right h, List.drop_of_length_le (Nat.le_refl _), List.drop_of_length_le h, List.take_nil]
/-- a slice of a tuple: the tuple itself, or a new one, of these items -/
def rCut (K : PySem.W.Frag) : V → Option Int → Option Int → Hp → VK → Prop := fun x lo hi H Q => ∃ a xs, x = .ref a ∧ SqT K H a xs ∧
  ∀ p H', Same H H' → SqT K H' p (cutV xs lo hi) → Q (.ref p) H'
theorem sl_cut {X : Cx} : SlR X (rCut X.K) := by
  intro pins s σ H x v vl vu lo hi sl Q inv rx hs pl pu want
  obtain ⟨a, xs, rfl, hx, q⟩ := want
  refine sl_tupA pins s σ H _ v vl vu lo hi sl Q inv rx hs pl pu ⟨a, xs, rfl, hx, fun whole => q a H (Same.refl H) ?_, fun _ p hp => q p _ (same_new hp _) (SqT.of upd_same)⟩
  have e : cutV xs lo hi = xs := by
    unfold cutV
    rw [whole.1, whole.2, List.drop_zero, Nat.sub_zero, List.take_of_length_le (Nat.le_refl _)]
  rw [e]
  exact hx
/-- t + u: one of the two, or a new tuple, of these items -/
def rPlus (K : PySem.W.Frag) : R2 := fun x y H Q => ∃ a b xs ys, x = .ref a ∧ y = .ref b ∧ SqT K H a xs ∧ SqT K H b ys ∧ xs.length + ys.length ≤ sizeLine ∧
  ∀ p H', Same H H' → SqT K H' p (xs ++ ys) → Q (.ref p) H'
theorem op_plus {X : Cx} : OpR X (binaryOp .Add) (rPlus X.K) := by
  intro pins s σ H x y v u Q inv rx ry want
  obtain ⟨a, b, xs, ys, rfl, rfl, ha, hb, hz, q⟩ := want
  refine op_catA pins s σ H _ _ v u Q inv rx ry ⟨a, b, xs, ys, rfl, rfl, ha, hb, hz, fun e => q b H (Same.refl H) ?_, fun _ e => q a H (Same.refl H) ?_, fun _ _ p hp => q p _ (same_new hp _) (SqT.of upd_same)⟩
  · rw [e]
    exact hb
  · rw [e, List.append_nil]
    exact ha
theorem small16 {n : Nat} (h : n ≤ 100000) : n ≤ sizeLine := Nat.le_trans h (by decide)
end LG
/-! ### error classes of the text -/
namespace LG
open PySem PySem.Spec PyProof.Rows L2
/-- the class of this name over ValueError -/
structure Err (K : PySem.W.Frag) (mg : Str → Option Value) (x : Str) (C : Addr) : Prop where
  xi : PySem.W.excIn K C [.type "ValueError", .type "Exception", .type "BaseException", .type "object"] "ValueError.__new__" = true
  g : mg x = some (.ref C)
  k : PySem.W.keepIn K (.ref C) = true
  b : PySem.W.subIn K (.ref C) (.type "BaseException") = some true
  t : PySem.W.typeIn K (.ref C) = some (.type "type")
/-- what a clause for the class at D makes of an error of the class at C -/
theorem exm_of2 {K : PySem.W.Frag} {C D : Addr} {r : Bool} (h1 : PySem.W.subIn K (.ref D) (.type "BaseException") = some true) (h2 : PySem.W.isClsIn K D = true) (h3 : PySem.W.typeIn K (.ref D) = some (.type "type")) (h4 : PySem.W.subIn K (.ref C) (.ref D) = some r) :
    PySem.W.exmOne K (.ref C) (.ref D) = some r := by
  show (if (PySem.W.subIn K (.ref D) (.type "BaseException") == some true) = true then (if (PySem.W.isClsIn K D && PySem.W.typeIn K (.ref D) == some (.type "type")) = true then PySem.W.subIn K (.ref C) (.ref D) else none) else none) = some r
  rw [h1, h2, h3, h4]
  rfl
end LG
/-! ### the hand from which the law takes its draws -/
namespace LG
open PySem PySem.Spec PyProof.Rows L2
/-- hand at h: the draws at d, how many were taken -/
def Hand (H : Hp) (h d : Addr) (ds : List Int) (n : Nat) : Prop := H h = some (.lst [.ref d, .int n]) ∧ H d = some (.lst (ds.map V.int))
section
variable {H H' : Hp} {h d : Addr} {ds : List Int} {n : Nat}
theorem Hand.ne (x : Hand H h d ds n) : d ≠ h := by
  rintro rfl
  have e := x.1.symm.trans x.2
  cases ds with
  | nil => cases e
  | cons z ds => cases e
theorem Hand.next (x : Hand H h d ds n) : Hand (upd H h (.lst [.ref d, .int ((n + 1 : Nat) : Int)])) h d ds (n + 1) := ⟨upd_same, by rw [upd_ne x.ne]; exact x.2⟩
theorem Hand.same (x : Hand H h d ds n) (s : Same H H') : Hand H' h d ds n := ⟨s _ _ x.1, s _ _ x.2⟩
theorem Hand.tups (x : Hand H h d ds n) : TupsStay H (upd H h (.lst [.ref d, .int ((n + 1 : Nat) : Int)])) := tups_lst x.1
/-- another list stays -/
theorem Hand.keep {a : Addr} {ns : List Int} (x : Hand H h d ds n) (e : H a = some (.lst (ns.map V.int))) : (upd H h (.lst [.ref d, .int ((n + 1 : Nat) : Int)])) a = some (.lst (ns.map V.int)) := by
  rw [upd_ne]
  · exact e
  rintro rfl
  have q := x.1.symm.trans e
  cases ns with
  | nil => cases q
  | cons z ns => cases q
end
end LG
/-! ### data of any kind, outside the places that may change -/
namespace LG
open PySem PySem.Spec PyProof.Rows L2
/-- what lies outside M stays, and all tuples -/
structure Go (M : Addr → Prop) (H H' : Hp) : Prop where
  out : ∀ b o, ¬ M b → H b = some o → H' b = some o
  tups : TupsStay H H'
section
variable {M : Addr → Prop} {H H1 H' : Hp} {K : PySem.W.Frag}
theorem Go.refl (H : Hp) : Go M H H := ⟨fun _ _ _ e => e, TupsStay.refl H⟩
theorem Go.trans (a : Go M H H1) (b : Go M H1 H') : Go M H H' := ⟨fun c o m e => b.out c o m (a.out c o m e), a.tups.trans b.tups⟩
theorem _root_.L2.Same.go (s : Same H H') : Go M H H' := ⟨fun b o _ e => s b o e, s.tups⟩
theorem Go.put {a : Addr} {xs ys : List V} (m : M a) (h : H a = some (.lst xs)) : Go M H (upd H a (.lst ys)) := ⟨fun b u n e => by
  rw [upd_ne (fun z => n (by rw [z]; exact m))]
  exact e, tups_lst h⟩
theorem Go.new {p : Addr} (h : H p = none) (o : HO) : Go M H (L2.upd H p o) := L2.Same.go (same_new h o)
theorem Go.seqL {a : Addr} {xs : List V} (s : Go M H H') (m : ¬ M a) (h : SqL K H a xs) : SqL K H' a xs := by
  rcases h with (h | ⟨o, h⟩) | h
  · exact .inl (.inl (s.out _ _ m h))
  · exact .inl (.inr ⟨o, s.out _ _ m h⟩)
  · exact .inr h
theorem Go.seqT {a : Addr} {xs : List V} (s : Go M H H') (h : SqT K H a xs) : SqT K H' a xs := s.tups.seq h
end
mutual
inductive Dv (M : Addr → Prop) (K : PySem.W.Frag) (H : Hp) : V → PyData → Prop
  | non : Dv M K H .non .none
  | bl (b : Bool) : Dv M K H (.bl b) (.bool b)
  | int (i : Int) : Dv M K H (.int i) (.int i)
  | str (x : Str) : Dv M K H (.str x) (.str x)
  | lst {a : Addr} {xs : List V} {ds : List PyData} : ¬ M a → SqL K H a xs → DvAll M K H xs ds → Dv M K H (.ref a) (.list ds)
  | tup {a : Addr} {xs : List V} {ds : List PyData} : SqT K H a xs → DvAll M K H xs ds → Dv M K H (.ref a) (.tuple ds)
inductive DvAll (M : Addr → Prop) (K : PySem.W.Frag) (H : Hp) : List V → List PyData → Prop
  | nil : DvAll M K H [] []
  | cons {v : V} {vs : List V} {d : PyData} {ds : List PyData} : Dv M K H v d → DvAll M K H vs ds → DvAll M K H (v :: vs) (d :: ds)
end
section
variable {M M' : Addr → Prop} {K : PySem.W.Frag} {H H' : Hp}
mutual
theorem Dv.dp : ∀ {v : V} {d : PyData}, Dv M K H v d → Dp K H v d
  | _, _, .non => .non
  | _, _, .bl b => .bl b
  | _, _, .int i => .int i
  | _, _, .str x => .str x
  | _, _, .lst _ h a => .lst h a.dp
  | _, _, .tup h a => .tup h a.dp
theorem DvAll.dp : ∀ {vs : List V} {ds : List PyData}, DvAll M K H vs ds → DpAll K H vs ds
  | _, _, .nil => .nil
  | _, _, .cons h a => .cons h.dp a.dp
end
mutual
theorem Dv.stay (t : Go M H H') : ∀ {v : V} {d : PyData}, Dv M K H v d → Dv M K H' v d
  | _, _, .non => .non
  | _, _, .bl b => .bl b
  | _, _, .int i => .int i
  | _, _, .str x => .str x
  | _, _, .lst m h a => .lst m (t.seqL m h) (a.stay t)
  | _, _, .tup h a => .tup (t.seqT h) (a.stay t)
theorem DvAll.stay (t : Go M H H') : ∀ {vs : List V} {ds : List PyData}, DvAll M K H vs ds → DvAll M K H' vs ds
  | _, _, .nil => .nil
  | _, _, .cons h a => .cons (h.stay t) (a.stay t)
end
theorem DvAll.len : ∀ {vs : List V} {ds : List PyData}, DvAll M K H vs ds → vs.length = ds.length
  | _, _, .nil => rfl
  | _, _, .cons _ a => by rw [List.length_cons, List.length_cons, a.len]
theorem DvAll.at : ∀ {vs : List V} {ds : List PyData} {i : Nat} {d : PyData}, DvAll M K H vs ds → ds[i]? = some d → ∃ v, vs[i]? = some v ∧ Dv M K H v d
  | _, _, _, _, .nil, e => by simp at e
  | _, _, 0, _, .cons h _, e => by simp at e; subst e; exact ⟨_, rfl, h⟩
  | _, _, i + 1, d, .cons _ a, e => by simpa using a.at (i := i) (by simpa using e)
theorem DvAll.of : ∀ {vs : List V} {ds : List PyData} {i : Nat} {v : V}, DvAll M K H vs ds → vs[i]? = some v → ∃ d, ds[i]? = some d ∧ Dv M K H v d
  | _, _, _, _, .nil, e => by simp at e
  | _, _, 0, _, .cons h _, e => by simp at e; subst e; exact ⟨_, rfl, h⟩
  | _, _, i + 1, d, .cons _ a, e => by simpa using a.of (i := i) (by simpa using e)
theorem DvAll.app : ∀ {vs ws : List V} {ds es : List PyData}, DvAll M K H vs ds → DvAll M K H ws es → DvAll M K H (vs ++ ws) (ds ++ es)
  | _, _, _, _, .nil, b => b
  | _, _, _, _, .cons h a, b => .cons h (a.app b)
theorem DvAll.take : ∀ {vs : List V} {ds : List PyData} (n : Nat), DvAll M K H vs ds → DvAll M K H (vs.take n) (ds.take n)
  | _, _, 0, _ => .nil
  | _, _, _ + 1, .nil => .nil
  | _, _, n + 1, .cons h a => .cons h (a.take n)
theorem DvAll.drop : ∀ {vs : List V} {ds : List PyData} (n : Nat), DvAll M K H vs ds → DvAll M K H (vs.drop n) (ds.drop n)
  | _, _, 0, a => a
  | _, _, _ + 1, .nil => .nil
  | _, _, n + 1, .cons _ a => a.drop n
theorem DvAll.ints : ∀ (ns : List Int), DvAll M K H (ns.map V.int) (ns.map PyData.int)
  | [] => .nil
  | n :: ns => .cons (.int n) (DvAll.ints ns)
/-- the built-in type of data -/
def tyD : PyData → String
  | .none => "NoneType"
  | .bool _ => "bool"
  | .int _ => "int"
  | .str _ => "str"
  | .list _ => "list"
  | .tuple _ => "tuple"
  | .dict _ => "dict"
theorem tyx_lst {a : Addr} {xs : List V} (h : SqL K H a xs) : TyX K H (.ref a) (.type "list") := by
  rcases h with (h | ⟨o, h⟩) | ⟨o, its, n, hk, hc, _⟩
  · exact .base (.lst h)
  · exact .base (.frz h)
  · exact .kList hk hc
theorem tyx_tup {a : Addr} {xs : List V} (h : SqT K H a xs) : TyX K H (.ref a) (.type "tuple") := by
  rcases h with (h | ⟨o, h⟩) | ⟨o, its, n, hk, hc, _⟩
  · exact .base (.tup h)
  · exact .fTuple h
  · exact .kTuple hk hc
theorem Dv.ty {v : V} {d : PyData} (h : Dv M K H v d) : TyX K H v (.type (tyD d)) := by
  cases h with
  | non => exact .base .non
  | bl b => exact .base (.bl b)
  | int i => exact .base (.int i)
  | str x => exact .base (.str x)
  | lst _ h _ => exact tyx_lst h
  | tup h _ => exact tyx_tup h
/-- a dict with few keys, at the top of a value: what repr tells of it -/
def keyD : Key → PyData
  | .inl i => .int i
  | .inr x => .str x
/-- data, or a dict of such without lists -/
inductive Dq (M : Addr → Prop) (K : PySem.W.Frag) (H : Hp) : V → PyData → Prop
  | data {v : V} {d : PyData} : Dv M K H v d → Dq M K H v d
  | dct {a : Addr} {kvs : List (Key × V)} {ds : List PyData} : ¬ M a → H a = some (.dK kvs) → DtAll K H (kvs.map (·.2)) ds → Dq M K H (.ref a) (.dict ((kvs.map fun p => keyD p.1).zip ds))
end
section
variable {M : Addr → Prop} {K : PySem.W.Frag} {H H' : Hp}
mutual
theorem Dt.dv : ∀ {v : V} {d : PyData}, Dt K H v d → Dv M K H v d
  | _, _, .non => .non
  | _, _, .bl b => .bl b
  | _, _, .int i => .int i
  | _, _, .str x => .str x
  | _, _, .tup h a => .tup h a.dv
theorem DtAll.dv : ∀ {vs : List V} {ds : List PyData}, DtAll K H vs ds → DvAll M K H vs ds
  | _, _, .nil => .nil
  | _, _, .cons h a => .cons h.dv a.dv
end
theorem Dq.stay {v : V} {d : PyData} (t : Go M H H') (h : Dq M K H v d) : Dq M K H' v d := by
  cases h with
  | data h => exact .data (h.stay t)
  | dct m h a => exact .dct m (t.out _ _ m h) (a.stay t.tups)
theorem Dq.ty {v : V} {d : PyData} (h : Dq M K H v d) : TyX K H v (.type (tyD d)) := by
  cases h with
  | data h => exact h.ty
  | dct _ h _ => exact .base (.dK h)
end
section
variable {X : Cx} {pins : List (Addr × Obj)} {σ : L2.St} {H : Hp} {s : Shared} {M : Addr → Prop}
mutual
/-- data without lists is read without a list's place -/
theorem Dt.bare (I : Inv X pins σ H s) : ∀ (d : PyData) (v : V) (u : Value), Dt X.K H v d → RelV v u → Reads s.heap u d []
  | .none, _, _, h, r => by
    cases h
    cases r
    exact Reads.none
  | .bool b, _, _, h, r => by
    cases h
    cases r
    exact Reads.bool b
  | .int i, _, _, h, r => by
    cases h
    obtain ⟨t, rfl⟩ := r
    exact Reads.int i t
  | .str x, _, _, h, r => by
    cases h
    obtain ⟨t, rfl⟩ := r
    exact Reads.str x t
  | .tuple ds, _, _, h, r => by
    cases h with
    | tup hs ha =>
      cases r
      obtain ⟨its, rv, ⟨o, ho, hc, n, hd⟩, _⟩ := I.tuple hs
      exact Reads.tuple ho hc hd (DtAll.bare I ds _ its ha rv)
  | .list _, _, _, h, _ => by cases h
  | .dict _, _, _, h, _ => by cases h
theorem DtAll.bare (I : Inv X pins σ H s) : ∀ (ds : List PyData) (vs : List V) (us : List Value), DtAll X.K H vs ds → Vals vs us → ReadsAll s.heap us ds []
  | [], _, _, h, r => by
    cases h
    cases r
    exact ReadsAll.nil
  | d :: ds, _, _, h, r => by
    cases h with
    | cons h1 h2 =>
      cases r with
      | cons r1 r2 => exact ReadsAll.cons (Dt.bare I d _ _ h1 r1) (DtAll.bare I ds _ _ h2 r2)
end
/-- a dict's keys and values -/
theorem pairs_read {P : Program} {w : World} {kvs : List (Key × V)} {vs : List (Key × Value)} {es : List DictEntry} (kv : KV kvs vs) (ps : Pairs (mixKind P w) es vs) :
    Vals (kvs.map fun p => kV p.1) (es.map (·.key)) ∧ Vals (kvs.map (·.2)) (es.map (·.val)) := by
  induction ps generalizing kvs with
  | nil =>
    cases kv
    exact ⟨.nil, .nil⟩
  | cons hk hv _ ih =>
    cases kv with
    | cons r rr =>
      obtain ⟨i1, i2⟩ := ih rr
      obtain ⟨e1, e2⟩ := r
      refine ⟨.cons ?_ i1, .cons ?_ i2⟩
      · rw [← e1] at hk
        have hk' : keyIs _ _ = true := hk
        rcases keyIs_shape hk' with ⟨i, t, e, q⟩ | ⟨x, t, e, q⟩
        · show RelV (kV _) (DictEntry.key _)
          rw [e, q]
          exact ⟨t, rfl⟩
        · show RelV (kV _) (DictEntry.key _)
          rw [e, q]
          exact ⟨t, rfl⟩
      · show RelV (Prod.snd _) (DictEntry.val _)
        rw [hv]
        exact e2
theorem keys_dt {K : PySem.W.Frag} : ∀ kvs : List (Key × V), DtAll K H (kvs.map fun p => kV p.1) (kvs.map fun p => keyD p.1)
  | [] => .nil
  | (.inl i, v) :: r => .cons (.int i) (keys_dt r)
  | (.inr x, v) :: r => .cons (.str x) (keys_dt r)
/-- repr of such data -/
def rRepV (K : PySem.W.Frag) : List V → Hp → VK → Prop := fun xs H Q => ∃ (M : Addr → Prop) (v : V) (d : PyData), xs = [v] ∧ Dq M K H v d ∧ d.showable = true ∧ d.depth ≤ 60 ∧ d.shown.length ≤ sizeLine ∧ Q (.str d.shown) H
theorem call_repV (guard : X.A.guards = some []) (room : X.A.units + 64 < cLine) : CallR X (.builtin "repr") (rRepV X.K) := by
  intro pins s σ H xs us Q inv rel want
  obtain ⟨M, v, d, e, hd, h1, h2, h3, q⟩ := want
  cases hd with
  | data hd => exact call_rep guard room pins s σ H xs us Q inv rel ⟨v, d, e, hd.dp, h1, h2, h3, q⟩
  | @dct a kvs ds _ ha hv =>
    subst e
    cases rel with
    | cons r0 rr =>
      cases rr
      cases r0
      obtain ⟨_, sys, vs, kv, o, es, ep, ho, ex, hdat, _, ps, _⟩ := (show ObjOk X.prog X.w H s.heap a (.dK kvs) from inv.hok a _ ha)
      obtain ⟨r1, r2⟩ := pairs_read kv ps
      have k1 := DtAll.bare inv _ _ _ (keys_dt kvs) r1
      have k2 := DtAll.bare inv _ _ _ hv r2
      have len : (kvs.map fun p => keyD p.1).length = ds.length := by rw [List.length_map, ← hv.len, List.length_map]
      have z1 : ((kvs.map fun p => keyD p.1).zip ds).map (·.1) = kvs.map fun p => keyD p.1 := List.map_fst_zip (by rw [len]; exact Nat.le_refl _)
      have z2 : ((kvs.map fun p => keyD p.1).zip ds).map (·.2) = ds := List.map_snd_zip (by rw [len]; exact Nat.le_refl _)
      have reads : Reads s.heap (.ref a) (.dict ((kvs.map fun p => keyD p.1).zip ds)) (a :: [] ++ []) := Reads.dict ho ex.1 hdat (by rw [z1]; exact k1) (by rw [z2]; exact k2)
      refine repr_of_reads' reads h1 (fun _ mem => ?_) guard (by omega) (fun _ _ z => z) (fun h' u' tk keep => ⟨.str _, H, inv.kept keep, ⟨_, rfl⟩, q⟩) h3
      have e : sysModules = a := by simpa using mem
      rw [e] at sys
      simp at sys
end
end LG
namespace LG
open PySem PySem.Spec PyProof.Rows L2
section
variable {M : Addr → Prop} {K : PySem.W.Frag} {H H' : Hp}
/-- what was made since is changed -/
theorem Go.own {p : Addr} (g : Go M H H') (h : H p = none) (o : HO) : Go M H (L2.upd H' p o) := ⟨fun b u m e => by
  rw [upd_ne (ne_of_none e h)]
  exact g.out b u m e, fun b u k e => by
  rw [upd_ne (ne_of_none e h)]
  exact g.tups b u k e⟩
theorem Hand.off {h d p : Addr} {ds : List Int} {n : Nat} (x : Hand H h d ds n) (hp : p ≠ h) (dp : p ≠ d) (o : HO) : Hand (L2.upd H p o) h d ds n := ⟨by rw [upd_ne hp.symm]; exact x.1, by rw [upd_ne dp.symm]; exact x.2⟩
theorem Hand.go {h d : Addr} {ds : List Int} {n : Nat} (x : Hand H h d ds n) : Go (· = h) H (L2.upd H h (.lst [.ref d, .int ((n + 1 : Nat) : Int)])) := Go.put rfl x.1
theorem Hand.new {h d p : Addr} {ds : List Int} {n : Nat} (x : Hand H h d ds n) (hp : H p = none) (o : HO) : Hand (L2.upd H p o) h d ds n := x.same (same_new hp o)
theorem at_any {α : Type} {xs : List α} {i : Int} (h0 : -(xs.length : Int) ≤ i) (h1 : i < (xs.length : Int)) : ∃ (j : Nat) (y : α), xs[j]? = some y ∧ atI xs i = some y := by
  by_cases h : 0 ≤ i
  · have lt : i.toNat < xs.length := by omega
    refine ⟨i.toNat, xs[i.toNat], by simp [lt], ?_⟩
    unfold atI ixN
    rw [if_pos h, if_pos h1]
    simp [lt]
  · have lt : (i + (xs.length : Int)).toNat < xs.length := by omega
    refine ⟨(i + (xs.length : Int)).toNat, xs[(i + (xs.length : Int)).toNat], by simp [lt], ?_⟩
    unfold atI ixN
    rw [if_neg h, if_pos h0]
    simp [lt]
/-- some item of a row of data -/
theorem DvAll.pick {xs : List V} {ds : List PyData} {i : Int} (a : DvAll M K H xs ds) (h0 : -(ds.length : Int) ≤ i) (h1 : i < (ds.length : Int)) : ∃ y e, atI xs i = some y ∧ e ∈ ds ∧ Dv M K H y e := by
  rw [← a.len] at h0 h1
  obtain ⟨j, y, hj, hy⟩ := at_any h0 h1
  obtain ⟨e, he, d⟩ := a.of hj
  exact ⟨y, e, hy, List.mem_of_getElem? he, d⟩
theorem DtAll.pick {xs : List V} {ds : List PyData} {i : Int} (a : DtAll K H xs ds) (h0 : -(ds.length : Int) ≤ i) (h1 : i < (ds.length : Int)) : ∃ y e, atI xs i = some y ∧ e ∈ ds ∧ Dt K H y e := by
  rw [← a.len] at h0 h1
  obtain ⟨j, y, hj, hy⟩ := at_any h0 h1
  obtain ⟨e, he, d⟩ := a.of hj
  exact ⟨y, e, hy, List.mem_of_getElem? he, d⟩
inductive DqAll (M : Addr → Prop) (K : PySem.W.Frag) (H : Hp) : List V → List PyData → Prop
  | nil : DqAll M K H [] []
  | cons {v : V} {vs : List V} {d : PyData} {ds : List PyData} : Dq M K H v d → DqAll M K H vs ds → DqAll M K H (v :: vs) (d :: ds)
theorem DqAll.len : ∀ {vs : List V} {ds : List PyData}, DqAll M K H vs ds → vs.length = ds.length
  | _, _, .nil => rfl
  | _, _, .cons _ a => by rw [List.length_cons, List.length_cons, a.len]
theorem DqAll.of : ∀ {vs : List V} {ds : List PyData} {i : Nat} {v : V}, DqAll M K H vs ds → vs[i]? = some v → ∃ d, ds[i]? = some d ∧ Dq M K H v d
  | _, _, _, _, .nil, e => by simp at e
  | _, _, 0, _, .cons h _, e => by simp at e; subst e; exact ⟨_, rfl, h⟩
  | _, _, i + 1, d, .cons _ a, e => by simpa using a.of (i := i) (by simpa using e)
theorem DqAll.pick {xs : List V} {ds : List PyData} {i : Int} (a : DqAll M K H xs ds) (h0 : -(ds.length : Int) ≤ i) (h1 : i < (ds.length : Int)) : ∃ y e, atI xs i = some y ∧ e ∈ ds ∧ Dq M K H y e := by
  rw [← a.len] at h0 h1
  obtain ⟨j, y, hj, hy⟩ := at_any h0 h1
  obtain ⟨e, he, d⟩ := a.of hj
  exact ⟨y, e, hy, List.mem_of_getElem? he, d⟩
theorem DqAll.stay (t : Go M H H') : ∀ {vs : List V} {ds : List PyData}, DqAll M K H vs ds → DqAll M K H' vs ds
  | _, _, .nil => .nil
  | _, _, .cons h a => .cons (h.stay t) (a.stay t)
/-- two parts -/
theorem sized_two {m1 m2 h1 h2 : Nat} {a b : PyData} (sa : Sized m1 h1 a) (sb : Sized m2 h2 b) : Sized (m1 + m2 + 2) (max h1 h2 + 1) (.tuple [a, b]) := by
  obtain ⟨a1, a2, a3, a4⟩ := sa
  obtain ⟨b1, b2, b3, b4⟩ := sb
  refine ⟨?_, ?_, ?_, ?_⟩
  · simp only [PyData.leavesShort, PyData.leavesShortAll, a1, b1, Bool.and_self]
  · simp only [PyData.showable, PyData.showableAll, a2, b2, Bool.and_self]
  · simp only [PyData.depth, PyData.depthAll]
    omega
  · simp only [PyData.bulk, PyData.bulkAll]
    omega
theorem sized_str (x : Str) (h : (x.cps.toList.all fun c => decide (c < 16 ^ 8)) = true) (n : Nat) (hn : x.cps.size ≤ n) : Sized n 0 (.str x) := ⟨by simp only [PyData.leavesShort]; exact h, by simp only [PyData.showable], by simp only [PyData.depth]; omega, by simp only [PyData.bulk]; exact hn⟩
end
end LG
/-! ### tuples of ints: order, sorting; membership -/
namespace LG
open PySem PySem.Spec PyProof.Rows L2
/-- a row of ints as data -/
def tupI (r : List Int) : PyData := .tuple (r.map PyData.int)
section
variable {X : Cx}
theorem dp_row {K : PySem.W.Frag} {H : Hp} {a : Addr} {ns : List Int} (h : SqT K H a (ns.map V.int)) : Dp K H (.ref a) (tupI ns) := .tup h (DtAll.ints ns).dp
theorem row_depth (ns : List Int) : (tupI ns).depth = 1 := by
  unfold tupI
  simp only [PyData.depth, PySem.W.depth_ints]
theorem row_lt (ns ms : List Int) : PySem.W.dataLt (tupI ns) (tupI ms) = decide (ns < ms) := by
  rw [← PySem.W.dataLt_ints]
  exact PySem.W.dataLt_tuple _ _
theorem row_alike (ns ms : List Int) : PySem.W.alike (tupI ns) (tupI ms) = true := by
  unfold tupI
  rw [PySem.W.alike]
  exact PySem.W.alike_ints ns ms
/-- x >= y, rows of ints -/
def rGeR (K : PySem.W.Frag) : R2 := fun x y H Q => ∃ (a b : Addr) (ns ms : List Int), x = .ref a ∧ y = .ref b ∧ SqT K H a (ns.map V.int) ∧ SqT K H b (ms.map V.int) ∧ Q (.bl (!decide (ns < ms))) H
theorem op_geR (hu : X.A.units + 64 < cLine) : OpR X (compareOp .GtE) (rGeR X.K) := by
  intro pins s σ H x y v u Q I rx ry h
  obtain ⟨a, b, ns, ms, rfl, rfl, ha, hb, q⟩ := h
  obtain ⟨as, r1⟩ := Dp.reads I _ _ v (dp_row ha) rx
  obtain ⟨bs, r2⟩ := Dp.reads I _ _ u (dp_row hb) ry
  exact PySem.W.ge_data r1 r2 (row_alike ns ms) (by unfold tupI; exact nofun) (by rw [row_depth]; omega) ⟨.bl _, H, I, rfl, by rw [row_lt]; exact q⟩
def rLtR (K : PySem.W.Frag) : R2 := fun x y H Q => ∃ (a b : Addr) (ns ms : List Int), x = .ref a ∧ y = .ref b ∧ SqT K H a (ns.map V.int) ∧ SqT K H b (ms.map V.int) ∧ Q (.bl (decide (ns < ms))) H
theorem op_ltR (hu : X.A.units + 64 < cLine) : OpR X (compareOp .Lt) (rLtR X.K) := by
  intro pins s σ H x y v u Q I rx ry h
  obtain ⟨a, b, ns, ms, rfl, rfl, ha, hb, q⟩ := h
  obtain ⟨as, r1⟩ := Dp.reads I _ _ v (dp_row ha) rx
  obtain ⟨bs, r2⟩ := Dp.reads I _ _ u (dp_row hb) ry
  exact PySem.W.lt_data r1 r2 (row_alike ns ms) (by unfold tupI; exact nofun) (by rw [row_depth]; omega) ⟨.bl _, H, I, rfl, by rw [row_lt]; exact q⟩
/-- x in t, t a tuple of data -/
def rInTD (K : PySem.W.Frag) : R2 := fun x y H Q => ∃ d ds, Dp K H x d ∧ Dp K H y (.tuple ds) ∧ SeqAt.shaped d = true ∧ SeqAt.shaped (.list ds) = true ∧ Q (.bl (ds.any fun z => PyData.eqv z d)) H
theorem op_inTD (hu : X.A.units + 65 < cLine) : OpR X (compareOp .In) (rInTD X.K) := by
  intro pins s σ H x y v u Q I rx ry h
  obtain ⟨d, ds, hd, he, sd, se, q⟩ := h
  obtain ⟨as, r1⟩ := Dp.reads I d x v hd rx
  obtain ⟨bs, r2⟩ := Dp.reads I (.tuple ds) y u he ry
  exact SeqAt.in_tuple_reads r2 r1 (SeqAt.canLay_of_shaped se) (SeqAt.canLay_of_shaped sd) (room_in_shaped sd hu) ⟨.bl _, H, I, rfl, q⟩
/-- the order of sorting -/
def leR (a b : List Int) : Bool := !decide (b < a)
def rSortR (K : PySem.W.Frag) : List V → Hp → VK → Prop := fun vs H Q => ∃ (a : Addr) (xs : List V) (rs : List (List Int)), vs = [V.ref a] ∧ SqL K H a xs ∧ DtAll K H xs (rs.map tupI) ∧ rs.length ≤ 1000 ∧ (∀ r ∈ rs, r ≠ []) ∧
  ∀ (ys : List V) (p : Addr), H p = none → DtAll K H ys ((rs.mergeSort leR).map tupI) → Q (.ref p) (upd H p (.lst ys))
theorem each_of {K : PySem.W.Frag} {H : Hp} : ∀ {rs : List (List Int)} {xs : List V} {us : List Value}, DtAll K H xs (rs.map tupI) → Vals xs us → PySem.W.EachIs (fun u r => ∃ t, u = Value.ref t ∧ SqT K H t (r.map V.int)) us rs
  | [], _, _, h, r => by
    cases h
    cases r
    exact .nil
  | b :: bs, _, _, h, r => by
    cases h with
    | cons h1 h2 =>
      cases r with
      | cons r1 r2 =>
        refine .cons ?_ (each_of h2 r2)
        cases h1 with
        | @tup a ys ds hs ha =>
          cases r1
          refine ⟨a, rfl, ?_⟩
          have e : ys = b.map V.int := by
            clear hs h2 r2
            induction b generalizing ys with
            | nil => cases ha; rfl
            | cons x b ih =>
              cases ha with
              | cons h h' =>
                cases h
                rw [List.map_cons, ← ih h']
          rw [← e]
          exact hs
theorem each_back {K : PySem.W.Frag} {H : Hp} : ∀ {rs : List (List Int)} {us : List Value}, PySem.W.EachIs (fun u r => ∃ t, u = Value.ref t ∧ SqT K H t (r.map V.int)) us rs → ∃ ys, Vals ys us ∧ DtAll K H ys (rs.map tupI)
  | [], _, .nil => ⟨[], .nil, .nil⟩
  | b :: bs, _, .cons ⟨t, e, h⟩ r => by
    obtain ⟨ys, v, d⟩ := each_back r
    subst e
    exact ⟨.ref t :: ys, .cons rfl v, .cons (.tup h (DtAll.ints b)) d⟩
theorem cr_sortR (hu : X.A.units + 64 < cLine) : CallR X (.builtin "sorted") (rSortR X.K) := by
  intro pins s σ H vs us Q I r h
  obtain ⟨a, xs, rs, rfl, hs, hd, hz, ne, q⟩ := h
  obtain ⟨its, rv, hl, hz2⟩ := I.list hs
  rw [Vals.ref1 r]
  have ea := each_of hd rv
  have er : PySem.W.EachIs (fun v b => ∃ as, Reads s.heap v (tupI b) as) its rs := ea.mono fun u b ⟨t, e, ht⟩ => by
    subst e
    exact Dp.reads I _ _ _ (dp_row ht) rfl
  have al : PySem.W.AllAlike (rs.map tupI) := fun d hd d' hd' => by
    obtain ⟨x, _, rfl⟩ := List.mem_map.mp hd
    obtain ⟨y, _, rfl⟩ := List.mem_map.mp hd'
    exact row_alike x y
  have so : PySem.W.Sortable (rs.map tupI) := .inl fun d hd => by
    obtain ⟨x, hx, rfl⟩ := List.mem_map.mp hd
    cases x with
    | nil => exact absurd rfl (ne _ hx)
    | cons i x => exact ⟨_, _, rfl⟩
  refine PySem.W.sorted_data hl.isList ea er al so (Nat.le_trans hz (by decide)) (fun b _ => by rw [row_depth]; omega) fun out hlen hout => ?_
  have eo : PySem.W.dataLe false tupI = leR := by
    rw [PySem.W.dataLe_eq]
    funext x y
    simp only [cond_false, row_lt]
    rfl
  rw [eo] at hout
  obtain ⟨ys, vy, dy⟩ := each_back hout
  obtain ⟨ep, he'⟩ := PyProof.Rows.sortedAll_at s.heap its out.toArray
  have len : ys.length ≤ sizeLine := by
    rw [vy.length, hlen]
    exact Nat.le_trans hz (by decide)
  exact ⟨.ref _, upd H (s.heap.objs.size + 1) (.lst ys), I.laid (t' := s.toks) (fun _ _ => PyProof.Rows.sortedAll_old) (Nat.le_succ _) ⟨len, out, ep, vy, he'⟩, rfl, q _ _ (I.hok.fresh (Nat.le_succ _)) dy⟩
end
end LG
/-! ### data with dicts at any place -/
namespace LG
open PySem PySem.Spec PyProof.Rows L2
mutual
inductive Dn (M : Addr → Prop) (K : PySem.W.Frag) (H : Hp) : V → PyData → Prop
  | non : Dn M K H .non .none
  | bl (b : Bool) : Dn M K H (.bl b) (.bool b)
  | int (i : Int) : Dn M K H (.int i) (.int i)
  | str (x : Str) : Dn M K H (.str x) (.str x)
  | lst {a : Addr} {xs : List V} {ds : List PyData} : ¬ M a → H a = some (.lst xs) → DnAll M K H xs ds → Dn M K H (.ref a) (.list ds)
  | tup {a : Addr} {xs : List V} {ds : List PyData} : SqT K H a xs → DnAll M K H xs ds → Dn M K H (.ref a) (.tuple ds)
  | dct {a : Addr} {kvs : List (Key × V)} {ds : List PyData} : ¬ M a → H a = some (.dK kvs) → DnAll M K H (kvs.map (·.2)) ds → Dn M K H (.ref a) (.dict ((kvs.map fun p => keyD p.1).zip ds))
inductive DnAll (M : Addr → Prop) (K : PySem.W.Frag) (H : Hp) : List V → List PyData → Prop
  | nil : DnAll M K H [] []
  | cons {v : V} {vs : List V} {d : PyData} {ds : List PyData} : Dn M K H v d → DnAll M K H vs ds → DnAll M K H (v :: vs) (d :: ds)
end
section
variable {M M' : Addr → Prop} {K : PySem.W.Frag} {H H' : Hp}
mutual
theorem Dt.dn : ∀ {v : V} {d : PyData}, Dt K H v d → Dn M K H v d
  | _, _, .non => .non
  | _, _, .bl b => .bl b
  | _, _, .int i => .int i
  | _, _, .str x => .str x
  | _, _, .tup h a => .tup h a.dn
theorem DtAll.dn : ∀ {vs : List V} {ds : List PyData}, DtAll K H vs ds → DnAll M K H vs ds
  | _, _, .nil => .nil
  | _, _, .cons h a => .cons h.dn a.dn
end
mutual
theorem Dn.stay (t : Go M H H') : ∀ {v : V} {d : PyData}, Dn M K H v d → Dn M K H' v d
  | _, _, .non => .non
  | _, _, .bl b => .bl b
  | _, _, .int i => .int i
  | _, _, .str x => .str x
  | _, _, .lst m h a => .lst m (t.out _ _ m h) (a.stay t)
  | _, _, .tup h a => .tup (t.seqT h) (a.stay t)
  | _, _, .dct m h a => .dct m (t.out _ _ m h) (a.stay t)
theorem DnAll.stay (t : Go M H H') : ∀ {vs : List V} {ds : List PyData}, DnAll M K H vs ds → DnAll M K H' vs ds
  | _, _, .nil => .nil
  | _, _, .cons h a => .cons (h.stay t) (a.stay t)
end
theorem DnAll.len : ∀ {vs : List V} {ds : List PyData}, DnAll M K H vs ds → vs.length = ds.length
  | _, _, .nil => rfl
  | _, _, .cons _ a => by rw [List.length_cons, List.length_cons, a.len]
theorem DnAll.at : ∀ {vs : List V} {ds : List PyData} {i : Nat} {d : PyData}, DnAll M K H vs ds → ds[i]? = some d → ∃ v, vs[i]? = some v ∧ Dn M K H v d
  | _, _, _, _, .nil, e => by simp at e
  | _, _, 0, _, .cons h _, e => by simp at e; subst e; exact ⟨_, rfl, h⟩
  | _, _, i + 1, d, .cons _ a, e => by simpa using a.at (i := i) (by simpa using e)
theorem DnAll.of : ∀ {vs : List V} {ds : List PyData} {i : Nat} {v : V}, DnAll M K H vs ds → vs[i]? = some v → ∃ d, ds[i]? = some d ∧ Dn M K H v d
  | _, _, _, _, .nil, e => by simp at e
  | _, _, 0, _, .cons h _, e => by simp at e; subst e; exact ⟨_, rfl, h⟩
  | _, _, i + 1, d, .cons _ a, e => by simpa using a.of (i := i) (by simpa using e)
theorem DnAll.app : ∀ {vs ws : List V} {ds es : List PyData}, DnAll M K H vs ds → DnAll M K H ws es → DnAll M K H (vs ++ ws) (ds ++ es)
  | _, _, _, _, .nil, b => b
  | _, _, _, _, .cons h a, b => .cons h (a.app b)
theorem DnAll.take : ∀ {vs : List V} {ds : List PyData} (n : Nat), DnAll M K H vs ds → DnAll M K H (vs.take n) (ds.take n)
  | _, _, 0, _ => .nil
  | _, _, _ + 1, .nil => .nil
  | _, _, n + 1, .cons h a => .cons h (a.take n)
theorem DnAll.drop : ∀ {vs : List V} {ds : List PyData} (n : Nat), DnAll M K H vs ds → DnAll M K H (vs.drop n) (ds.drop n)
  | _, _, 0, a => a
  | _, _, _ + 1, .nil => .nil
  | _, _, n + 1, .cons _ a => a.drop n
theorem DnAll.pick {xs : List V} {ds : List PyData} {i : Int} (a : DnAll M K H xs ds) (h0 : -(ds.length : Int) ≤ i) (h1 : i < (ds.length : Int)) : ∃ y e, atI xs i = some y ∧ e ∈ ds ∧ Dn M K H y e := by
  rw [← a.len] at h0 h1
  obtain ⟨j, y, hj, hy⟩ := at_any h0 h1
  obtain ⟨e, he, d⟩ := a.of hj
  exact ⟨y, e, hy, List.mem_of_getElem? he, d⟩
theorem Dn.ty {v : V} {d : PyData} (h : Dn M K H v d) : TyX K H v (.type (tyD d)) := by
  cases h with
  | non => exact .base .non
  | bl b => exact .base (.bl b)
  | int i => exact .base (.int i)
  | str x => exact .base (.str x)
  | lst _ h _ => exact tyx_lst (SqL.of h)
  | tup h _ => exact tyx_tup h
  | dct _ h _ => exact .base (.dK h)
theorem dn_tup {x : V} {ds : List PyData} (h : Dn M K H x (.tuple ds)) : ∃ a xs, x = .ref a ∧ SqT K H a xs ∧ DnAll M K H xs ds := by
  cases h with
  | tup h1 h2 => exact ⟨_, _, rfl, h1, h2⟩
theorem dn_int {x : V} {i : Int} (h : Dn M K H x (.int i)) : x = .int i := by
  cases h
  rfl
theorem dn_str {x : V} {i : Str} (h : Dn M K H x (.str i)) : x = .str i := by
  cases h
  rfl
/-- without dicts it is the library's data -/
theorem Dn.dp : ∀ (d : PyData) {v : V}, d.hasDict = false → Dn M K H v d → Dp K H v d
  | .none, _, _, .non => .non
  | .bool b, _, _, .bl _ => .bl b
  | .int i, _, _, .int _ => .int i
  | .str x, _, _, .str _ => .str x
  | .list ds, _, n, .lst _ h a => .lst (SqL.of h) (go ds (by simpa only [PyData.hasDict] using n) a)
  | .tuple ds, _, n, .tup h a => .tup h (go ds (by simpa only [PyData.hasDict] using n) a)
  | .dict _, _, n, _ => by simp [PyData.hasDict] at n
where go : ∀ (ds : List PyData) {vs : List V}, PyData.hasDictAll ds = false → DnAll M K H vs ds → DpAll K H vs ds
  | [], _, _, .nil => .nil
  | d :: ds, _, n, .cons h a => by
    simp only [PyData.hasDictAll, Bool.or_eq_false_iff] at n
    exact .cons (Dn.dp d n.1 h) (go ds n.2 a)
/-- the table of modules is no list of ours -/
def Sys (K : PySem.W.Frag) (H : Hp) : Prop := ∃ o u, H sysModules = some (.frz o u)
theorem Sys.same (s : Sys K H) (e : Same H H') : Sys K H' := by
  obtain ⟨o, u, h⟩ := s
  exact ⟨o, u, e _ _ h⟩
theorem Sys.go (s : Sys K H) (e : Go M H H') (m : ¬ M sysModules) : Sys K H' := by
  obtain ⟨o, u, h⟩ := s
  exact ⟨o, u, e.out _ _ m h⟩
theorem Sys.lst (s : Sys K H) {a : Addr} {xs : List V} (h : H a = some (.lst xs)) : sysModules ≠ a := by
  obtain ⟨o, u, e⟩ := s
  rintro rfl
  rw [e] at h
  cases h
theorem Sys.ne (s : Sys K H) {a : Addr} {xs : List V} (h : H a = some (.lst xs)) : ¬ sysModules = a := s.lst h
end
section
variable {X : Cx} {pins : List (Addr × Obj)} {σ : L2.St} {H : Hp} {s : Shared} {M : Addr → Prop}
mutual
theorem Dn.reads (I : Inv X pins σ H s) (S : Sys X.K H) : ∀ {v : V} {d : PyData}, Dn M X.K H v d → ∀ u : Value, RelV v u → ∃ as, Reads s.heap u d as ∧ sysModules ∉ as
  | _, _, .non, _, r => by
    cases r
    exact ⟨_, Reads.none, List.not_mem_nil⟩
  | _, _, .bl b, _, r => by
    cases r
    exact ⟨_, Reads.bool b, List.not_mem_nil⟩
  | _, _, .int i, _, r => by
    obtain ⟨t, rfl⟩ := r
    exact ⟨_, Reads.int i t, List.not_mem_nil⟩
  | _, _, .str x, _, r => by
    obtain ⟨t, rfl⟩ := r
    exact ⟨_, Reads.str x t, List.not_mem_nil⟩
  | _, _, .lst _ hs ha, _, r => by
    cases r
    obtain ⟨its, rv, ⟨o, n, ho, hc, _, hd⟩, _⟩ := I.list (SqL.of hs)
    obtain ⟨as, q1, q2⟩ := DnAll.reads I S ha its rv
    refine ⟨_, Reads.list ho hc hd (by simpa using q1), ?_⟩
    rw [List.mem_cons]
    rintro (e | e)
    · exact S.lst hs e
    · exact q2 e
  | _, _, .tup hs ha, _, r => by
    cases r
    obtain ⟨its, rv, ⟨o, ho, hc, n, hd⟩, _⟩ := I.tuple hs
    obtain ⟨as, q1, q2⟩ := DnAll.reads I S ha its rv
    exact ⟨_, Reads.tuple ho hc hd (by simpa using q1), q2⟩
  | _, _, .dct (a := a) (kvs := kvs) (ds := ds) _ hH ha, _, r => by
    cases r
    obtain ⟨_, sys, vs, kv, o, es, ep, ho, ex, hdat, _, ps, _⟩ := (show ObjOk X.prog X.w H s.heap a (.dK kvs) from I.hok a _ hH)
    obtain ⟨r1, r2⟩ := pairs_read kv ps
    have k1 := DtAll.bare I _ _ _ (keys_dt kvs) r1
    have len : (kvs.map fun p => keyD p.1).length = ds.length := by rw [List.length_map, ← ha.len, List.length_map]
    have z1 : ((kvs.map fun p => keyD p.1).zip ds).map (·.1) = kvs.map fun p => keyD p.1 := List.map_fst_zip (by rw [len]; exact Nat.le_refl _)
    have z2 : ((kvs.map fun p => keyD p.1).zip ds).map (·.2) = ds := List.map_snd_zip (by rw [len]; exact Nat.le_refl _)
    obtain ⟨as, q1, q2⟩ := DnAll.reads I S ha _ r2
    refine ⟨_, Reads.dict ho ex.1 hdat (by rw [z1]; exact k1) (by rw [z2]; exact q1), ?_⟩
    rw [List.mem_append, List.mem_singleton]
    rintro (e | e)
    · rw [← e] at sys
      simp at sys
    · exact q2 e
theorem DnAll.reads (I : Inv X pins σ H s) (S : Sys X.K H) : ∀ {vs : List V} {ds : List PyData}, DnAll M X.K H vs ds → ∀ us : List Value, Vals vs us → ∃ as, ReadsAll s.heap us ds as ∧ sysModules ∉ as
  | _, _, .nil, _, r => by
    cases r
    exact ⟨_, ReadsAll.nil, List.not_mem_nil⟩
  | _, _, .cons h1 h2, _, r => by
    cases r with
    | cons r1 r2 =>
      obtain ⟨as, q1, n1⟩ := Dn.reads I S h1 _ r1
      obtain ⟨bs, q2, n2⟩ := DnAll.reads I S h2 _ r2
      refine ⟨_, ReadsAll.cons q1 q2, ?_⟩
      rw [List.mem_append]
      rintro (e | e)
      · exact n1 e
      · exact n2 e
end
end
section
variable {X : Cx}
/-- repr of such data -/
def rRepN (K : PySem.W.Frag) : List V → Hp → VK → Prop := fun xs H Q => ∃ (M : Addr → Prop) (v : V) (d : PyData), xs = [v] ∧ Dn M K H v d ∧ Sys K H ∧ d.showable = true ∧ d.depth ≤ 60 ∧ d.shown.length ≤ sizeLine ∧ Q (.str d.shown) H
theorem call_repN (guard : X.A.guards = some []) (room : X.A.units + 64 < cLine) : CallR X (.builtin "repr") (rRepN X.K) := by
  intro pins s σ H xs us Q inv rel want
  obtain ⟨M, v, d, rfl, hd, S, h1, h2, h3, q⟩ := want
  cases rel with
  | cons r0 rr =>
  rename_i u us'
  cases rr
  obtain ⟨as, reads, no⟩ := Dn.reads inv S hd u r0
  have dict : d.hasDict = true → sysModules ∉ as := fun _ => no
  cases hd with
  | non =>
    cases r0
    exact PySem.P.repr_of_none ⟨.str _, H, inv.tok _, ⟨_, rfl⟩, by simpa only [PyData.shown] using q⟩
  | bl b =>
    cases r0
    refine PySem.P.repr_of_bool ⟨.str _, H, inv.tok _, ⟨_, rfl⟩, by simpa only [PyData.shown] using q⟩
  | int i =>
    obtain ⟨t, rfl⟩ := r0
    exact PySem.P.repr_of_int (by simpa [PyData.showable] using h1) ⟨.str _, H, inv.tok _, ⟨_, rfl⟩, by simpa only [PyData.shown] using q⟩
  | str x =>
    obtain ⟨t, rfl⟩ := r0
    exact PySem.P.repr_of_str ⟨.str _, H, inv.tok _, ⟨_, rfl⟩, by simpa only [PyData.shown] using q⟩ (by simpa only [PyData.shown] using h3)
  | lst _ _ _ =>
    cases r0
    exact repr_of_reads' reads h1 dict guard (by omega) (fun _ _ z => z) (fun h' u' tk keep => ⟨.str _, H, inv.kept keep, ⟨_, rfl⟩, q⟩) h3
  | tup _ _ =>
    cases r0
    exact repr_of_reads' reads h1 dict guard (by omega) (fun _ _ z => z) (fun h' u' tk keep => ⟨.str _, H, inv.kept keep, ⟨_, rfl⟩, q⟩) h3
  | dct _ _ _ =>
    cases r0
    exact repr_of_reads' reads h1 dict guard (by omega) (fun _ _ z => z) (fun h' u' tk keep => ⟨.str _, H, inv.kept keep, ⟨_, rfl⟩, q⟩) h3
end
end LG
/-! ### the end, the table of modules told apart -/
namespace LG
open PySem PySem.W PySem.Spec PyProof.Rows L2
section
variable {P : Program} {w : World} {K : PySem.W.Frag} {mg mb : Str → Option Value} {k : Nat} {fa a : Addr} {fd : FuncData} {x : Str} {sp : Sp} {s : Shared} {vs : List Value} {ns : List Int}
theorem endS_from (inK : K.In s.heap) (mains : s.heap.Ns mainGlobals mg) (blts : s.heap.Ns builtinsNs mb) (boot : ∀ y : Str, y ≠ "__name__" → mb y = bootBuiltins y) (noLim : s.heap.NoLimit) (gens : s.gens = #[])
    (obj : s.heap.get? a = some { cls := .type "list", data := .seq vs.toArray }) (room : Room k callerA) (goesF : ∀ base : Heap, K.In base → base.Ns mainGlobals mg → FnG P w K mg base k fa fd [x] sp)
    (bind : ∀ (s : Shared) (u : Value), BindsTo s fd ⟨[u], []⟩ [(x, u)]) (H : Hp) (only : ∀ b, H b = none ∨ ∃ o u, H b = some (.frz o u)) (held : HOk P w H s.heap) (alone : ∀ b, H b ≠ none → b = a ∨ b = sysModules) (away : ∀ b, H b ≠ none → K.lookup b = none)
    (want : sp [.ref a] H (fun v _ => v = .bl true) E0) :
    codeAny (model P w) callerA (.call (.ref fa) ⟨[.ref a], []⟩) (fun r s' => r = .ok (.ret (.bool true)) ∧ OldK s.heap s'.heap ∧ s'.os = s.os ∧ AllBare s'.gens) s := by
  have space : ∀ {b : Addr} {m : Str → Option Value}, b ≠ sysModules → s.heap.Ns b m → (hidT s.heap H).Ns b m := fun {b m} nb ⟨o, es, ep, e, d, more⟩ =>
    ⟨o, es, ep, hidT_get e (by
      cases q : H b with
      | none => rfl
      | some u =>
        rcases alone b (by rw [q]; exact nofun) with here | here
        · rw [here, obj] at e
          have e2 := Option.some.inj e
          rw [← e2] at d
          exact nomatch d
        · exact absurd here nb), d, more⟩
  have baseK : K.In (hidT s.heap H) := fun b o e => hidT_get (inK b o e) (by
    cases q : H b with
    | none => rfl
    | some u =>
      have no := away b (by rw [q]; exact nofun)
      rw [no] at e
      exact nomatch e)
  have lim : (hidT s.heap H).NoLimit := by
    obtain ⟨mc, h1, h2⟩ := noLim
    exact ⟨mc, space (by decide) h1, h2⟩
  have mains2 := space (by decide) mains
  have modu : Mod K mg (hidT s.heap H) := ⟨baseK, mains2, ⟨mb, space (by decide) blts, boot⟩, lim⟩
  have e0 : Env0 P w K mg (hidT s.heap H) callerA [] s H := ⟨rfl, modu, fun _ _ e => of_hidT e, Nat.le_of_eq (hidT_size _ _), trivial, (fun _ hb => absurd (show _ ∈ ([] : List Addr) from hb) List.not_mem_nil), held, .of_eq gens⟩
  refine codeAny_mono ((goesF _ baseK mains2).goes callerA [] s H [.ref a] [.ref a] _ E0 rfl room e0 (bind s (.ref a)) (.cons rfl .nil) want) fun r s' got => ?_
  cases r with
  | error _ => exact False.elim got
  | ok flow =>
  cases flow with
  | next => exact False.elim got
  | brk => exact False.elim got
  | cont => exact False.elim got
  | ret u =>
    obtain ⟨v, H', sameOs, bare, un, held', rel, yes⟩ := got
    have yes' : v = .bl true := yes
    subst yes'
    obtain rfl : u = Value.bool true := rel
    refine ⟨rfl, OldK.of_keep fun b o e => ?_, sameOs, bare⟩
    rcases only b with free | ⟨ob, xs, fz⟩
    · exact un.keep b o e free (fun z => nomatch z) (fun z => nomatch z)
    · obtain ⟨e1, _⟩ := held b _ fz
      obtain ⟨e2, _⟩ := held' b _ (un.frzs b ob _ fz)
      rw [e2, ← e1, e]
theorem endS_call (inK : K.In s.heap) (mains : s.heap.Ns mainGlobals mg) (blts : s.heap.Ns builtinsNs mb) (boot : ∀ y : Str, y ≠ "__name__" → mb y = bootBuiltins y) (noLim : s.heap.NoLimit) (gens : s.gens = #[])
    (obj : s.heap.get? a = some { cls := .type "list", data := .seq vs.toArray }) (numbs : PyProof.Rows.IntsAre vs ns) (small : ns.length ≤ sizeLine) (room : Room k callerA) (sysK : K.lookup sysModules = none) (seer : s.heap.NoSeer)
    (goesF : ∀ base : Heap, K.In base → base.Ns mainGlobals mg → FnG P w K mg base k fa fd [x] sp) (bind : ∀ (s : Shared) (u : Value), BindsTo s fd ⟨[u], []⟩ [(x, u)])
    (want : ∀ H : Hp, Sys K H → SqL K H a (ns.map V.int) → sp [.ref a] H (fun v _ => v = .bl true) E0) :
    codeAny (model P w) callerA (.call (.ref fa) ⟨[.ref a], []⟩) (fun r s' => r = .ok (.ret (.bool true)) ∧ OldK s.heap s'.heap ∧ s'.os = s.os ∧ AllBare s'.gens) s := by
  have rel := vals_ints numbs
  obtain ⟨ob, hob⟩ : ∃ ob, s.heap.get? sysModules = some ob := by
    obtain ⟨mm, ⟨o, es, ep, e, _⟩, _⟩ := seer.mods
    exact ⟨o, e⟩
  let two : Hp := fun b => if b = a ∧ K.lookup a = none then some (.frz { cls := .type "list", data := .seq vs.toArray } (.lst (ns.map V.int))) else if b = sysModules then some (.frz ob (.ext fun h => h.get? sysModules = some ob)) else none
  have only : ∀ b, two b = none ∨ ∃ o u, two b = some (.frz o u) := fun b => by
    by_cases h1 : b = a ∧ K.lookup a = none
    · exact .inr ⟨_, _, if_pos h1⟩
    · by_cases h2 : b = sysModules
      · exact .inr ⟨_, _, (if_neg h1).trans (if_pos h2)⟩
      · exact .inl ((if_neg h1).trans (if_neg h2))
  have alone : ∀ b, two b ≠ none → b = a ∨ b = sysModules := fun b h => by
    by_cases h1 : b = a ∧ K.lookup a = none
    · exact .inl h1.1
    · by_cases h2 : b = sysModules
      · exact .inr h2
      · exact absurd ((if_neg h1).trans (if_neg h2)) h
  have away : ∀ b, two b ≠ none → K.lookup b = none := fun b h => by
    by_cases h1 : b = a ∧ K.lookup a = none
    · rw [h1.1]
      exact h1.2
    · by_cases h2 : b = sysModules
      · rw [h2]
        exact sysK
      · exact absurd ((if_neg h1).trans (if_neg h2)) h
  have held : HOk P w two s.heap := fun b u z => by
    by_cases h1 : b = a ∧ K.lookup a = none
    · have e : two b = _ := if_pos h1
      rw [e] at z
      obtain rfl := Option.some.inj z
      rw [h1.1]
      exact ⟨obj, by rw [List.length_map]; exact small, vs, _, rel, obj⟩
    · by_cases h2 : b = sysModules
      · have e : two b = _ := (if_neg h1).trans (if_pos h2)
        rw [e] at z
        obtain rfl := Option.some.inj z
        rw [h2]
        exact ⟨hob, hob, ⟨_, hob⟩, fun h1 h2 e k => k _ e⟩
      · have e : two b = _ := (if_neg h1).trans (if_neg h2)
        rw [e] at z
        cases z
  have sys : Sys K two := by
    by_cases h1 : sysModules = a ∧ K.lookup a = none
    · exact ⟨_, _, if_pos h1⟩
    · exact ⟨_, _, (if_neg h1).trans (if_pos rfl)⟩
  refine endS_from inK mains blts boot noLim gens obj room goesF bind two only held alone away (want two sys ?_)
  cases hk : K.lookup a with
  | some o =>
    have e := inK a o hk
    rw [obj] at e
    obtain rfl := Option.some.inj e
    exact Or.inr ⟨_, vs.toArray, _, hk, rfl, rfl, rfl, by rw [List.size_toArray, numbs.length]; exact small, by simpa using rel⟩
  | none => exact .inl (.inr ⟨_, if_pos ⟨rfl, hk⟩⟩)
end
theorem walk_S {l : PySem.W.OpenLaw} {n k : Nat} {q : Program} {loose : List Str} {XP : (Str → Option Value) → Heap → Prop} {YP : World → Heap → Prop} {d : DefRec} {K : Params → PySem.W.Frag} {sp : PySem.W.Frag → Sp} {x : Str}
    (hn : l.most = some n) (small : n ≤ sizeLine) (plain : d.params.defaults = []) (room : Room k callerA) (hq : importsNone q = true) (hY : ∀ (w : World) (h : Heap), YP w h → (K w.params).In h)
    (F : ∀ (w : World) (mg : Str → Option Value) (fa : Addr) (h : Heap), (K w.params).In h → h.Ns mainGlobals mg → mg d.name = some (.ref fa) →
      ∃ fd : FuncData, (K w.params).lookup sysModules = none ∧ (∀ (s : Shared) (u : Value), BindsTo s fd ⟨[u], []⟩ [(x, u)]) ∧ ∀ base : Heap, (K w.params).In base → base.Ns mainGlobals mg → FnG l.prog w (K w.params) mg base k fa fd [x] (sp (K w.params)))
    (want : ∀ (K : PySem.W.Frag) (H : Hp) (a : Addr) (ns : List Int), ns.length ≤ n → Sys K H → SqL K H a (ns.map V.int) → sp K [.ref a] H (fun v _ => v = .bl true) E0) :
    PySem.W.WalkO q loose XP YP l.row.toRowW d [] (fun f vs => PySem.call f vs) := by
  refine Att.attach_call hn plain fun w s0 s1 mg mb fa o pm cd doc a vs ns ground told ho hd hcd hmg obj numbs many gens => ?_
  have inK := hY w _ told
  obtain ⟨fd, sysK, bind, goesF⟩ := F w mg fa _ inK ground.T.g hmg
  exact endS_call inK ground.T.g ground.T.b ground.T.builtins ground.T.nolimit gens obj numbs (Nat.le_trans many small) room sysK (ground.T.seer hq) goesF bind fun H S held => want (K w.params) H a ns many S held
end LG
namespace Lw
open PySem PySem.Spec PyProof.Rows L2 LG
def top (i : Nat) : Stmt := PySem.Challenge.pw_looksfar_k03_row_allowed.main.body.getD i (.Pass ⟨0, 0, 0, 0⟩)
abbrev sis_number : Stmt := top 4
abbrev sproduct_of : Stmt := top 5
abbrev scheck_task : Stmt := top 13
abbrev sturned : Stmt := top 14
abbrev srow_allowed : Stmt := top 15
abbrev ssides_exchanged : Stmt := top 16
abbrev srows_of : Stmt := top 17
abbrev sis_task : Stmt := top 18
abbrev sare_labels : Stmt := top 19
abbrev s_are_inputs : Stmt := top 20
abbrev s_are_rows : Stmt := top 21
abbrev sis_row : Stmt := top 22
abbrev s_law_draws : Stmt := top 24
abbrev s_law_take : Stmt := top 25
abbrev s_law_rows : Stmt := top 26
abbrev s_law_labels : Stmt := top 27
abbrev s_law_task : Stmt := top 28
abbrev s_law_integer : Stmt := top 29
abbrev s_law_any_row : Stmt := top 30
abbrev s_law_row_value : Stmt := top 31
abbrev s_law_number_value : Stmt := top 32
abbrev s_law_side_value : Stmt := top 33
abbrev s_law_plain : Stmt := top 34
abbrev s_law_due : Stmt := top 35
abbrev s_law_asked : Stmt := top 36
abbrev s_law_every : Stmt := top 37
abbrev s_law_refused : Stmt := top 38
abbrev s_law_all : Stmt := top 39
abbrev slaw : Stmt := top 40
/-- the built-ins that the text uses -/
structure Blt (mg : Str → Option Value) : Prop where
  abs : mg "abs" = none
  int : mg "int" = none
  len : mg "len" = none
  range : mg "range" = none
  tuple : mg "tuple" = none
  isinstance : mg "isinstance" = none
  bool : mg "bool" = none
  repr : mg "repr" = none
  list : mg "list" = none
  all : mg "all" = none
  zip : mg "zip" = none
  sorted : mg "sorted" = none
  str : mg "str" = none
/-- the module's constants -/
structure Cst (mg : Str → Option Value) : Prop where
  LEAST_COLOURS : ∃ t, mg "LEAST_COLOURS" = some (.int 2 t)
  MOST_COLOURS : ∃ t, mg "MOST_COLOURS" = some (.int 4 t)
  MOST_INPUTS : ∃ t, mg "MOST_INPUTS" = some (.int 4 t)
  MOST_LABELS : ∃ t, mg "MOST_LABELS" = some (.int 60 t)
  MOST_ROWS : ∃ t, mg "MOST_ROWS" = some (.int 4000 t)
theorem _root_.L2.Room.units2 {k : Nat} {A : Around} (r : L2.Room k A) : A.units + 65 < cLine := by have := r.un; omega
/-! ### what a task is -/
def isNum (d : PyData) (lo hi : Int) : Bool := match d with
  | .int i => decide (lo ≤ i) && decide (i ≤ hi)
  | _ => false
def isInt2 : PyData → Bool
  | .int _ => true
  | .bool _ => true
  | _ => false
def isBool : PyData → Bool
  | .bool _ => true
  | _ => false
def isTup : PyData → Bool
  | .tuple _ => true
  | _ => false
theorem kit_int (d : PyData) : kitB (tyD d) "int" = some (isInt2 d) := by cases d <;> (simp only [tyD, isInt2]; decide +kernel)
theorem kit_bool (d : PyData) : kitB (tyD d) "bool" = some (isBool d) := by cases d <;> (simp only [tyD, isBool]; decide +kernel)
theorem kit_tup (d : PyData) : kitB (tyD d) "tuple" = some (isTup d) := by cases d <;> (simp only [tyD, isTup]; decide +kernel)
theorem isTup_of {d : PyData} (h : isTup d = true) : ∃ ds, d = .tuple ds := by
  cases d <;> first | exact ⟨_, rfl⟩ | cases h
/-- the number of an int -/
def numD : PyData → Int
  | .int i => i
  | _ => 0
/-- the ints of a tuple -/
def intsD : PyData → List Int
  | .tuple ds => ds.map numD
  | _ => []
theorem num_of {d : PyData} {lo hi : Int} (h : isNum d lo hi = true) : d = .int (numD d) ∧ lo ≤ numD d ∧ numD d ≤ hi := by
  cases d with
  | int i =>
    have h' : (decide (lo ≤ i) && decide (i ≤ hi)) = true := h
    rw [Bool.and_eq_true, decide_eq_true_eq, decide_eq_true_eq] at h'
    exact ⟨rfl, h'⟩
  | _ => cases h
def isRow (ls : List Int) : PyData → Bool
  | .tuple ds => decide (ds.length = ls.length) && (ds.zip ls).all fun p => isNum p.1 0 (p.2 - 1)
  | _ => false
def areRows (ls : List Int) : PyData → Bool
  | .tuple rs => (List.range rs.length).all fun at_ => isRow ls (rs.getD at_ .none) && (decide (at_ = 0) || decide (intsD (rs.getD (at_ - 1) .none) < intsD (rs.getD at_ .none)))
  | _ => false
def areInputs (ls : List Int) : PyData → Bool
  | .tuple sides => isNum (.int (sides.length : Nat)) 1 4 && sides.all (areRows ls)
  | _ => false
def prodD (ms : List PyData) : Int := ms.foldl (fun p m => p * numD m) 1
def areLabels (dD dL : PyData) : Bool := isNum dD 2 4 && match dL with
  | .tuple ms => decide (((ms.length : Nat) : Int) = numD dD) && (ms.all (isNum · 1 60) && decide (prodD ms ≤ 4000))
  | _ => false
def isWord (w : PyData) : Bool := match w with
  | .str x => decide (x = "task")
  | _ => false
def isTask : PyData → Bool
  | .tuple [w, dD, dL, dW, dB] => isWord w && (areLabels dD dL && (areInputs (intsD dL) dW && areInputs (intsD dL) dB))
  | _ => false
/-- of a right row the ints -/
theorem row_ints {ls : List Int} {d : PyData} (h : isRow ls d = true) : d = tupI (intsD d) ∧ (intsD d).length = ls.length := by
  cases d with
  | tuple ds =>
    have h' : (decide (ds.length = ls.length) && (ds.zip ls).all fun p => isNum p.1 0 (p.2 - 1)) = true := h
    rw [Bool.and_eq_true, decide_eq_true_eq] at h'
    obtain ⟨e, a⟩ := h'
    have go : ∀ (ds : List PyData) (ls : List Int), ds.length = ls.length → ((ds.zip ls).all fun p => isNum p.1 0 (p.2 - 1)) = true → ds = (ds.map numD).map PyData.int := by
      intro ds
      induction ds with
      | nil => intro _ _ _; rfl
      | cons d ds ih =>
        intro ls e a
        cases ls with
        | nil => cases e
        | cons l ls =>
          rw [List.zip_cons_cons, List.all_cons, Bool.and_eq_true] at a
          rw [List.map_cons, List.map_cons, ← ih ls (by simpa using e) a.2, ← (num_of a.1).1]
    refine ⟨?_, ?_⟩
    · show PyData.tuple ds = .tuple ((ds.map numD).map PyData.int)
      rw [← go ds ls e a]
    · show (ds.map numD).length = _
      rw [List.length_map, e]
  | _ => cases h
theorem labels_ints {ms : List PyData} (h : ms.all (isNum · 1 60) = true) : ms = (ms.map numD).map PyData.int := by
  induction ms with
  | nil => rfl
  | cons m ms ih =>
    rw [List.all_cons, Bool.and_eq_true] at h
    rw [List.map_cons, List.map_cons, ← ih h.2, ← (num_of h.1).1]
theorem prod_more (ms : List PyData) (m : PyData) : prodD (ms ++ [m]) = prodD ms * numD m := by
  unfold prodD
  rw [List.foldl_append]
  rfl
theorem prod_le : ∀ (ms : List PyData), ms.all (isNum · 1 60) = true → 1 ≤ prodD ms ∧ prodD ms ≤ 60 ^ ms.length := by
  intro ms
  have go : ∀ (ms : List PyData) (p : Int) (n : Nat), 1 ≤ p → p ≤ 60 ^ n → ms.all (isNum · 1 60) = true → 1 ≤ ms.foldl (fun p m => p * numD m) p ∧ ms.foldl (fun p m => p * numD m) p ≤ 60 ^ (n + ms.length) := by
    intro ms
    induction ms with
    | nil => exact fun p n h1 h2 _ => ⟨h1, h2⟩
    | cons m ms ih =>
      intro p n h1 h2 a
      rw [List.all_cons, Bool.and_eq_true] at a
      obtain ⟨_, l1, l2⟩ := num_of a.1
      have q1 : 1 ≤ p * numD m := by
        have := Int.mul_le_mul (show (1 : Int) ≤ p from h1) l1 (by decide) (by omega)
        omega
      have q2 : p * numD m ≤ 60 ^ (n + 1) := by
        rw [Int.pow_succ]
        exact Int.mul_le_mul h2 l2 (by omega) (by exact Int.le_of_lt (Int.pow_pos (by decide)))
      have r := ih (p * numD m) (n + 1) q1 q2 a.2
      rw [List.foldl_cons, List.length_cons, show n + (ms.length + 1) = n + 1 + ms.length by omega]
      exact r
  intro a
  have r := go ms 1 0 (by decide) (by decide) a
  rw [Nat.zero_add] at r
  exact r
section
variable {P : Program} {w : World} {K : PySem.W.Frag} {mg : Str → Option Value} {base : Heap}
theorem ints_vs {M : Addr → Prop} {H : Hp} : ∀ {ls : List Int} {xs : List V}, DnAll M K H xs (ls.map PyData.int) → xs = ls.map V.int
  | [], _, h => by
    cases h
    rfl
  | l :: ls, _, h => by
    cases h with
    | cons h1 h2 =>
      cases h1
      rw [List.map_cons, ← ints_vs h2]
theorem itz_walk {a b : Addr} {xs ys : List V} {B : (Hp → Prop) → V → Hp → Prop} {H0 : Hp} {Qd : Hp → Prop} (hl : xs.length = ys.length) (Pv : Nat → Hp → Prop) (h0 : Pv 0 H0) (hq : ∀ i H, Pv i H → SqT K H a xs ∧ SqT K H b ys)
    (hs : ∀ (i : Nat) (x y : V) (T : Addr) (H : Hp), xs[i]? = some x → ys[i]? = some y → Pv i H → H T = none → B (Pv (i + 1)) (.ref T) (upd H T (.tup [x, y]))) (hd : ∀ H, Pv xs.length H → Qd H) :
    ∃ W : Nat → Nat → Hp → Prop, (∃ m, W 0 m H0) ∧ ∀ i m H, W i m H →
      ((RZ.ItzT K a b).stop i H ∧ Qd H) ∨ ((RZ.ItzT K a b).go i H ∧ ∃ Nx : Hp → Prop, (∀ H', Nx H' → ∃ m', m' < m ∧ W (i + 1) m' H') ∧ ∀ x H', (RZ.ItzT K a b).yld i H x H' → B Nx x H') := by
  refine ⟨fun i m H => m = xs.length - i ∧ i ≤ xs.length ∧ Pv i H, ⟨xs.length, rfl, Nat.zero_le _, h0⟩, ?_⟩
  rintro i m H ⟨rfl, hi, p⟩
  obtain ⟨qx, qy⟩ := hq i H p
  by_cases hlt : i < xs.length
  · have hx : xs[i]? = some xs[i] := List.getElem?_eq_getElem hlt
    have hlt2 : i < ys.length := by omega
    have hy : ys[i]? = some ys[i] := List.getElem?_eq_getElem hlt2
    refine .inr ⟨⟨xs, ys, _, _, qx, qy, hx, hy⟩, Pv (i + 1), fun H' p' => ⟨xs.length - (i + 1), by omega, rfl, hlt, p'⟩, fun v H' y => ?_⟩
    obtain ⟨T, x', y', rfl, hT, rfl, f1, f2⟩ := y
    exact hs i x' y' T H (f1 xs qx) (f2 ys qy) p hT
  · have e : i = xs.length := by omega
    subst e
    exact .inl ⟨⟨xs, ys, qx, qy, Or.inl (Nat.le_refl _)⟩, hd H p⟩
theorem itt_walk {a : Addr} {xs : List V} {B : (Hp → Prop) → V → Hp → Prop} {H0 : Hp} {Qd : Hp → Prop} (Pv : Nat → Hp → Prop) (h0 : Pv 0 H0) (hl : ∀ i H, i ≤ xs.length → Pv i H → SqT K H a xs)
    (hs : ∀ i x H, xs[i]? = some x → Pv i H → B (Pv (i + 1)) x H) (hd : ∀ H, Pv xs.length H → Qd H) :
    ∃ W : Nat → Nat → Hp → Prop, (∃ m, W 0 m H0) ∧ ∀ i m H, W i m H →
      ((Itt K a).stop i H ∧ Qd H) ∨ ((Itt K a).go i H ∧ ∃ Nx : Hp → Prop, (∀ H', Nx H' → ∃ m', m' < m ∧ W (i + 1) m' H') ∧ ∀ x H', (Itt K a).yld i H x H' → B Nx x H') := by
  refine ⟨fun i m H => m = xs.length - i ∧ i ≤ xs.length ∧ Pv i H, ⟨xs.length, by simp, Nat.zero_le _, h0⟩, ?_⟩
  rintro i m H ⟨rfl, hi, p⟩
  have q := hl i H hi p
  by_cases hlt : i < xs.length
  · refine .inr ⟨⟨xs, xs[i], q, by simp [hlt]⟩, Pv (i + 1), fun H' p' => ⟨xs.length - (i + 1), by omega, rfl, hlt, p'⟩, fun x H' y => ?_⟩
    obtain ⟨e, y⟩ := y
    subst e
    exact hs i x _ (y xs q) p
  · have e : i = xs.length := by omega
    subst e
    exact .inl ⟨⟨xs, q, Nat.le_refl _⟩, hd H p⟩
theorem itr_walk {lo : Int} {n : Nat} {B : (Hp → Prop) → V → Hp → Prop} {H0 : Hp} {Qd : Hp → Prop} (Pv : Nat → Hp → Prop) (h0 : Pv 0 H0)
    (hs : ∀ i H, i < n → Pv i H → B (Pv (i + 1)) (.int (lo + i)) H) (hd : ∀ H, Pv n H → Qd H) :
    ∃ W : Nat → Nat → Hp → Prop, (∃ m, W 0 m H0) ∧ ∀ i m H, W i m H →
      ((Itr lo n).stop i H ∧ Qd H) ∨ ((Itr lo n).go i H ∧ ∃ Nx : Hp → Prop, (∀ H', Nx H' → ∃ m', m' < m ∧ W (i + 1) m' H') ∧ ∀ x H', (Itr lo n).yld i H x H' → B Nx x H') := by
  refine ⟨fun i m H => m = n - i ∧ i ≤ n ∧ Pv i H, ⟨n, by simp, Nat.zero_le _, h0⟩, ?_⟩
  rintro i m H ⟨rfl, hi, p⟩
  by_cases hlt : i < n
  · refine .inr ⟨hlt, Pv (i + 1), fun H' p' => ⟨n - (i + 1), by omega, rfl, hlt, p'⟩, fun x H' y => ?_⟩
    obtain ⟨e, y⟩ := y
    subst e y
    exact hs i _ hlt p
  · have e : i = n := by omega
    subst e
    exact .inl ⟨Nat.le_refl _, hd H p⟩
def spNumber (K : PySem.W.Frag) : Sp := fun vs H Q _ => ∃ (M : Addr → Prop) (x : V) (d : PyData) (lo hi : Int), vs = [x, .int lo, .int hi] ∧ Dn M K H x d ∧ Q (.bl (isNum d lo hi)) H
theorem ok_number {f : Addr} {fd : FuncData} (B : Blt mg) (F : Fun K "is_number" "is_number" sis_number f fd) : FnOk P w K mg base CX0 1 f fd ["value", "low", "high"] (spNumber K) := by
  have sc : FnScope ["value", "low", "high"] ["value", "low", "high"] (defScope sis_number) := ⟨rfl, rfl, rfl, by decide +kernel, rfl, by decide +kernel, by decide +kernel⟩
  refine F.ok sc (fun vs H Q E h => ?_) (fun cdv A outer s H vs Q E hr h => ?_)
  · obtain ⟨_, _, _, _, _, rfl, _⟩ := h
    rfl
  obtain ⟨M, x, d, lo, hi, rfl, hd, k⟩ := h
  refine ⟨_, (pss_cons (ps_if (PW.pt (pw_or (pt_not (pt_val (pe_callB call_isi (by rfl) B.isinstance (by decide +kernel) (pa_cons (pv 0) (pa_cons (pe_bltn (v := V.ty "int") (u := Value.type "int") (by rfl) B.int (by decide +kernel) rfl) pa_nil))))) (pw_or1 (pt_val (pe_callB call_isi (by rfl) B.isinstance (by decide +kernel) (pa_cons (pv 0) (pa_cons (pe_bltn (v := V.ty "bool") (u := Value.type "bool") (by rfl) B.bool (by decide +kernel) rfl) pa_nil)))))))
      (pss_one (ps_ret pe_bl))
      pss_nil)
    (pss_one (ps_ret (pe_chain op_le op_le (pv 1) (pv 0) (pv 2))))), ?_⟩
  refine ⟨_, rfl, x, _, _, _, isInt2 d, rfl, ClsV.ty _, hd.ty, kit_ty (kit_int d), _, rfl, ?_⟩
  have no : isNum d lo hi = false → Q (.bl false) H := fun e => by rw [e] at k; exact k
  cases hi2 : isInt2 d with
  | false =>
    refine iteT ?_
    refine iteT ?_
    exact no (by cases d <;> first | rfl | cases hi2)
  | true =>
    refine iteF ?_
    refine ⟨_, rfl, x, _, _, _, isBool d, rfl, ClsV.ty _, hd.ty, kit_ty (kit_bool d), _, rfl, ?_⟩
    cases hb : isBool d with
    | true =>
      refine iteT ?_
      exact no (by cases d <;> first | rfl | cases hb)
    | false =>
      refine iteF ?_
      cases d with
      | int i =>
        cases hd
        refine ⟨_, rfl, _, rfl, _, _, rfl, rfl, _, rfl, ?_⟩
        have e : isNum (.int i) lo hi = (decide (lo ≤ i) && decide (i ≤ hi)) := rfl
        rw [e] at k
        cases h1 : decide (lo ≤ i) with
        | true =>
          rw [h1] at k
          refine iteT ?_
          exact ⟨_, rfl, _, _, rfl, rfl, k⟩
        | false =>
          rw [h1] at k
          exact iteF k
      | _ => first | (simp [isInt2] at hi2; done) | (simp [isBool] at hb; done)
def spRow (K : PySem.W.Frag) : Sp := fun vs H Q _ => ∃ (M : Addr → Prop) (x : V) (d : PyData) (la : Addr) (ls : List Int), vs = [x, .ref la] ∧ Dn M K H x d ∧ SqT K H la (ls.map V.int) ∧ ls.length ≤ 1000 ∧ ∀ H', Same H H' → Q (.bl (isRow ls d)) H'
theorem ok_row {f : Addr} {fd : FuncData} (B : Blt mg) (gis_number : Has P w K mg base CX0 1 "is_number" ["value", "low", "high"] (spNumber K)) (F : Fun K "is_row" "is_row" sis_row f fd) : FnOk P w K mg base CX0 2 f fd ["row", "labels"] (spRow K) := by
  have sc : FnScope ["row", "labels", "label", "many"] ["row", "labels"] (defScope sis_row) := ⟨rfl, rfl, rfl, by decide +kernel, rfl, by decide +kernel, by decide +kernel⟩
  refine F.ok sc (fun vs H Q E h => ?_) (fun cdv A outer s H vs Q E hr h => ?_)
  · obtain ⟨_, _, _, _, _, rfl, _⟩ := h
    rfl
  obtain ⟨M, x, d, la, ls, rfl, hd, hla, hz, k⟩ := h
  refine ⟨_, (pss_cons (ps_if (PW.pt (pw_or (pt_not (pt_val (pe_callB call_isi (by rfl) B.isinstance (by decide +kernel) (pa_cons (pv 0) (pa_cons (pe_bltn (v := V.ty "tuple") (u := Value.type "tuple") (by rfl) B.tuple (by decide +kernel) rfl) pa_nil))))) (pw_or1 (pt_cmpR op_nei (pe_callB call_len_seq (by rfl) B.len (by decide +kernel) (pa_cons (pv 0) pa_nil)) (pe_callB call_len_seq (by rfl) B.len (by decide +kernel) (pa_cons (pv 1) pa_nil)) (nomark _)))))
      (pss_one (ps_ret pe_bl))
      pss_nil)
    (pss_one (ps_ret (pe_callB (cr_all rfl) (by rfl) B.all (by decide +kernel) (pa_cons (pe_lc (own := [("label", 2), ("many", 3)]) (g := gTup K 2 (gCons (gName 2) (gCons (gName 3) gNil))) (tt := tYes) rfl sc.nd (RZ.pi_zipA (by rfl) B.zip (pa_cons (pv 0) (pa_cons (pv 1) pa_nil))) (blkOk_by (N := ["row", "labels", "label", "many"]) (sc := defScope sis_row) (by decide +kernel)) (fun _ _ _ _ _ => (pg_tup rfl (pgs_cons (pg_name (i := 2) sc.nd rfl (Or.inl rfl)) (pgs_cons (pg_name (i := 3) sc.nd rfl (Or.inl rfl)) pgs_nil)))) (fun _ _ _ _ _ => pts_nil) (fun _ _ _ _ _ => (pc gis_number hr (pa_cons (pv 2) (pa_cons pe_int (pa_cons (pe_op op_sub (pv 3) pe_int) pa_nil)))))) pa_nil))))), ?_⟩
  have no : isRow ls d = false → Q (.bl false) H := fun e => by have := k H (Same.refl _); rw [e] at this; exact this
  refine ⟨_, rfl, x, _, _, _, isTup d, rfl, ClsV.ty _, hd.ty, kit_ty (kit_tup d), _, rfl, ?_⟩
  cases ht : isTup d with
  | false =>
    refine iteT ?_
    refine iteT ?_
    exact no (by cases d <;> first | rfl | cases ht)
  | true =>
    refine iteF ?_
    obtain ⟨ds, rfl⟩ := isTup_of ht
    obtain ⟨a, xs, rfl, ha, hx⟩ := dn_tup hd
    have e : isRow ls (.tuple ds) = (decide (ds.length = ls.length) && (ds.zip ls).all fun p => isNum p.1 0 (p.2 - 1)) := rfl
    refine ⟨_, rfl, a, _, rfl, .inr ha, _, rfl, la, _, rfl, .inr hla, _, _, rfl, rfl, _, rfl, ?_⟩
    by_cases hl : ds.length = ls.length
    · have e2 : ((xs.length : Nat) : Int) = (((ls.map V.int).length : Nat) : Int) := by rw [hx.len, List.length_map, hl]
      rw [decide_eq_true e2]
      refine iteF ?_
      have e3 : xs.length = (ls.map V.int).length := by rw [hx.len, List.length_map, hl]
      refine ⟨_, rfl, _, rfl, a, la, xs, _, rfl, .inr ⟨ha, hla, fun p hp => ?_⟩⟩
      refine itz_walk (K := K) e3 (fun i H' => Same H H' ∧ H' p = some (.lst ((((ds.zip ls).take i).map fun p => isNum p.1 0 (p.2 - 1)).map V.bl))) ⟨same_new hp _, upd_same⟩ (fun i H' z => ⟨z.1.seqT ha, z.1.seqT hla⟩) ?_ ?_
      · rintro i y z T H' hy hz2 ⟨sm, hH⟩ hT
        obtain ⟨dy, hdy, hyd⟩ := hx.of hy
        obtain ⟨m, hm, rfl⟩ := item_of hz2
        have st := same_new hT (.tup [y, .int m])
        refine ⟨T, _, rfl, SqT.of upd_same, rfl, _, _, rfl, _, _, rfl, rfl, rfl, ?_⟩
        refine ⟨_, rfl, _, rfl, _, _, rfl, rfl, M, y, dy, 0, m - 1, rfl, hyd.stay (Same.go (sm.trans st)), ?_⟩
        refine ⟨_, st _ _ hH, ?_, ?_, ?_⟩
        · rw [List.length_map, List.length_map, List.length_take, List.length_zip]
          exact Nat.lt_of_le_of_lt (show _ ≤ 1000 by omega) (by decide)
        · exact same_own (sm.trans st) hp _
        · have hzip : (ds.zip ls)[i]? = some (dy, m) := by rw [List.getElem?_zip_eq_some]; exact ⟨hdy, hm⟩
          rw [upd_same, take_more hzip, List.map_append, List.map_append]
          rfl
      · rintro H' ⟨sm, hH⟩
        rw [List.take_of_length_le (by rw [List.length_zip, hx.len]; omega)] at hH
        refine ⟨p, _, rfl, SqL.of hH, ?_⟩
        have q := k H' sm
        rw [e, decide_eq_true hl, Bool.true_and] at q
        rw [List.all_map]
        exact q
    · have e2 : ¬ ((xs.length : Nat) : Int) = (((ls.map V.int).length : Nat) : Int) := by rw [hx.len, List.length_map]; omega
      rw [decide_eq_false e2]
      refine iteT ?_
      refine no ?_
      rw [e, decide_eq_false hl]
      rfl
end
section
variable {P : Program} {w : World} {K : PySem.W.Frag} {mg : Str → Option Value} {base : Heap}
theorem bulk_all : ∀ {ds : List PyData}, ds.length ≤ PyData.bulkAll ds ∧ ∀ e ∈ ds, e.bulk ≤ PyData.bulkAll ds
  | [] => ⟨Nat.zero_le _, fun e h => absurd h List.not_mem_nil⟩
  | d :: ds => by
    obtain ⟨h1, h2⟩ := bulk_all (ds := ds)
    simp only [PyData.bulkAll, List.length_cons]
    refine ⟨by omega, fun e h => ?_⟩
    rcases List.mem_cons.mp h with rfl | h
    · omega
    · have := h2 e h
      omega
theorem bulk_len {ds : List PyData} {n : Nat} (h : (PyData.tuple ds).bulk ≤ n) : ds.length ≤ n := by
  simp only [PyData.bulk] at h
  exact Nat.le_trans bulk_all.1 h
theorem bulk_mem {ds : List PyData} {n : Nat} (h : (PyData.tuple ds).bulk ≤ n) {e : PyData} (m : e ∈ ds) : e.bulk ≤ n := by
  simp only [PyData.bulk] at h
  exact Nat.le_trans (bulk_all.2 e m) h
def spRows (K : PySem.W.Frag) : Sp := fun vs H Q _ => ∃ (M : Addr → Prop) (x : V) (d : PyData) (la : Addr) (ls : List Int), vs = [x, .ref la] ∧ Dn M K H x d ∧ d.bulk ≤ 1000000 ∧ SqT K H la (ls.map V.int) ∧ ls.length ≤ 1000 ∧ ∀ H', Same H H' → Q (.bl (areRows ls d)) H'
/-- what is asked of one place -/
def rowAt (ls : List Int) (rs : List PyData) (i : Nat) : Bool := isRow ls (rs.getD i .none) && (decide (i = 0) || decide (intsD (rs.getD (i - 1) .none) < intsD (rs.getD i .none)))
theorem rows_all (ls : List Int) (rs : List PyData) : areRows ls (.tuple rs) = (List.range rs.length).all (rowAt ls rs) := rfl
theorem rows_bad {ls : List Int} {rs : List PyData} {i : Nat} (hi : i < rs.length) (h : rowAt ls rs i = false) : areRows ls (.tuple rs) = false := by
  rw [rows_all, List.all_eq_false]
  exact ⟨i, List.mem_range.mpr hi, by rw [h]; decide⟩
theorem getD_of {rs : List PyData} {i : Nat} {d : PyData} (h : rs[i]? = some d) : rs.getD i .none = d := by
  simp [List.getD, h]
theorem row_val {M : Addr → Prop} {H : Hp} {v : V} {d : PyData} {ls : List Int} (h : Dn M K H v d) (r : isRow ls d = true) : ∃ a, v = .ref a ∧ SqT K H a ((intsD d).map V.int) := by
  obtain ⟨e, _⟩ := row_ints r
  rw [e] at h
  obtain ⟨a, xs, rfl, h1, h2⟩ := dn_tup h
  exact ⟨a, rfl, by rw [← ints_vs h2]; exact h1⟩
theorem ok_rows {f : Addr} {fd : FuncData} (B : Blt mg) (gis_row : Has P w K mg base CX0 2 "is_row" ["row", "labels"] (spRow K)) (F : Fun K "_are_rows" "_are_rows" s_are_rows f fd) : FnOk P w K mg base CX0 3 f fd ["rows", "labels"] (spRows K) := by
  have sc : FnScope ["rows", "labels", "at"] ["rows", "labels"] (defScope s_are_rows) := ⟨rfl, rfl, rfl, by decide +kernel, rfl, by decide +kernel, by decide +kernel⟩
  refine F.ok sc (fun vs H Q E h => ?_) (fun cdv A outer s H vs Q E hr h => ?_)
  · obtain ⟨_, _, _, _, _, rfl, _⟩ := h
    rfl
  obtain ⟨M, x, d, la, ls, rfl, hd, hb0, hla, hz, k⟩ := h
  refine ⟨_, (pss_cons (ps_if (pt_not (pt_val (pe_callB call_isi (by rfl) B.isinstance (by decide +kernel) (pa_cons (pv 0) (pa_cons (pe_bltn (v := V.ty "tuple") (u := Value.type "tuple") (by rfl) B.tuple (by decide +kernel) rfl) pa_nil)))))
      (pss_one (ps_ret pe_bl))
      pss_nil)
    (pss_cons (ps_for PassesOwn.never rfl (pi_range1 (by rfl) B.range (pa_cons (pe_callB call_len_seq (by rfl) B.len (by decide +kernel) (pa_cons (pv 0) pa_nil)) pa_nil)) (pg_name (i := 2) sc.nd rfl (Or.inl rfl))
      (pss_cons (ps_if (pt_not (pt_val (pc gis_row hr (pa_cons (pe_ix ix_tup (pv 0) (pv 2) (fun _ _ => rfl)) (pa_cons (pv 1) pa_nil)))))
        (pss_one (ps_ret pe_bl))
        pss_nil)
      (pss_one (ps_if (PW.pt (pw_and (pt_cmpR op_gt (pv 2) pe_int (nomark _)) (pw_and1 (pt_cmpR (op_geR hr.units) (pe_ix ix_tup (pv 0) (pe_op op_sub (pv 2) pe_int) (fun _ _ => rfl)) (pe_ix ix_tup (pv 0) (pv 2) (fun _ _ => rfl)) (nomark _)))))
        (pss_one (ps_ret pe_bl))
        pss_nil))))
    (pss_one (ps_ret pe_bl)))), ?_⟩
  refine ⟨_, rfl, x, _, _, _, isTup d, rfl, ClsV.ty _, hd.ty, kit_ty (kit_tup d), _, rfl, ?_⟩
  cases ht : isTup d with
  | false =>
    refine iteT ?_
    have e : areRows ls d = false := by cases d <;> first | rfl | cases ht
    rw [e] at k
    exact k H (Same.refl _)
  | true =>
    refine iteF ?_
    obtain ⟨ds, rfl⟩ := isTup_of ht
    obtain ⟨a, xs, rfl, ha, hx⟩ := dn_tup hd
    have no : ∀ {i : Nat}, i < ds.length → rowAt ls ds i = false → ∀ H', Same H H' → Q (.bl false) H' := fun hi hb H' sm => by
      have q := k H' sm
      rw [rows_bad hi hb] at q
      exact q
    refine ⟨_, rfl, a, _, rfl, .inr ha, ((xs.length : Nat) : Int), rfl, by omega, ?_, for_range (lo := 0) (n := ((xs.length : Nat) : Int).toNat) (fun i σ H' => Same H H' ∧ ∃ av : Option V, σ = [some (.ref a), some (.ref la), av] ∧ ∀ j, j < i → rowAt ls ds j = true)
      ⟨Same.refl _, none, rfl, fun j hj => absurd hj (Nat.not_lt_zero j)⟩ ?_ ?_⟩
    · have l1 := bulk_len hb0
      have l2 := hx.len
      omega
    · rintro i σ H' hi ⟨sm, av, rfl, hok⟩
      have il : i < ds.length := by rw [← hx.len]; omega
      obtain ⟨y, hy, hyd⟩ := (hx.stay (Same.go sm)).at (show ds[i]? = some ds[i] by simp [il])
      have gd : ds.getD i .none = ds[i] := getD_of (by simp [il])
      refine ⟨_, rfl, _, rfl, a, _, _, y, rfl, rfl, sm.seqT ha, at_of (j := i) (by omega) hy, _, rfl, M, y, ds[i], la, ls, rfl, hyd, sm.seqT hla, hz, fun H2 s2 => ⟨_, rfl, ?_⟩⟩
      have sm2 := sm.trans s2
      cases hir : isRow ls ds[i] with
      | false =>
        refine iteT ?_
        exact no il (by unfold rowAt; rw [gd, hir]; rfl) H2 sm2
      | true =>
        refine iteF ?_
        refine ⟨_, rfl, _, _, rfl, rfl, _, rfl, ?_⟩
        refine ite2 (fun c => ?_) (fun c => ?_)
        · have i0 := dec_t c
          have il2 : i - 1 < ds.length := by omega
          have prev := hok (i - 1) (by omega)
          have pr : isRow ls ds[i - 1] = true := by
            unfold rowAt at prev
            rw [Bool.and_eq_true, getD_of (show ds[i - 1]? = some ds[i - 1] by simp [il2])] at prev
            exact prev.1
          obtain ⟨y1, hy1, hyd1⟩ := (hx.stay (Same.go sm2)).at (show ds[i - 1]? = some ds[i - 1] by simp [il2])
          obtain ⟨b1, rfl, hb1⟩ := row_val hyd1 pr
          obtain ⟨b2, rfl, hb2⟩ := row_val (hyd.stay (Same.go s2)) hir
          refine ⟨_, rfl, _, rfl, _, _, rfl, rfl, a, _, _, _, rfl, rfl, sm2.seqT ha, at_of (j := i - 1) (by omega) hy1, _, rfl, _, rfl, a, _, _, _, rfl, rfl, sm2.seqT ha, at_of (j := i) (by omega) hy, b1, b2, _, _, rfl, rfl, hb1, hb2, _, rfl, ?_⟩
          have re : rowAt ls ds i = decide (intsD ds[i - 1] < intsD ds[i]) := by
            unfold rowAt
            rw [gd, hir, getD_of (show ds[i - 1]? = some ds[i - 1] by simp [il2]), decide_eq_false (show ¬ i = 0 by omega)]
            rfl
          cases hlt : decide (intsD ds[i - 1] < intsD ds[i]) with
          | true =>
            refine iteF ?_
            refine ⟨sm2, _, rfl, fun j hj => ?_⟩
            by_cases ej : j = i
            · rw [ej, re, hlt]
            · exact hok j (by omega)
          | false =>
            refine iteT ?_
            exact no il (by rw [re, hlt]) H2 sm2
        · have i0 := dec_f c
          obtain rfl : i = 0 := by omega
          refine ⟨sm2, _, rfl, fun j hj => ?_⟩
          obtain rfl : j = 0 := by omega
          unfold rowAt
          rw [gd, hir]
          rfl
    · rintro σ H' ⟨sm, av, rfl, hok⟩
      have q := k H' sm
      have e : areRows ls (.tuple ds) = true := by
        rw [rows_all, List.all_eq_true]
        exact fun j hj => hok j (by have := List.mem_range.mp hj; have := hx.len; omega)
      rw [e] at q
      exact q
theorem num_len {n : Nat} {lo hi : Int} : isNum (.int (n : Nat)) lo hi = (decide (lo ≤ (n : Int)) && decide ((n : Int) ≤ hi)) := rfl
def spInputs (K : PySem.W.Frag) : Sp := fun vs H Q _ => ∃ (M : Addr → Prop) (x : V) (d : PyData) (la : Addr) (ls : List Int), vs = [x, .ref la] ∧ Dn M K H x d ∧ d.bulk ≤ 1000000 ∧ SqT K H la (ls.map V.int) ∧ ls.length ≤ 1000 ∧ ∀ H', Same H H' → Q (.bl (areInputs ls d)) H'
theorem ok_inputs {f : Addr} {fd : FuncData} (B : Blt mg) (C : Cst mg) (gis_number : Has P w K mg base CX0 1 "is_number" ["value", "low", "high"] (spNumber K)) (g_are_rows : Has P w K mg base CX0 3 "_are_rows" ["rows", "labels"] (spRows K))
    (F : Fun K "_are_inputs" "_are_inputs" s_are_inputs f fd) : FnOk P w K mg base CX0 4 f fd ["allowed", "labels"] (spInputs K) := by
  have sc : FnScope ["allowed", "labels", "rows"] ["allowed", "labels"] (defScope s_are_inputs) := ⟨rfl, rfl, rfl, by decide +kernel, rfl, by decide +kernel, by decide +kernel⟩
  obtain ⟨t1, hMOST_INPUTS⟩ := C.MOST_INPUTS
  refine F.ok sc (fun vs H Q E h => ?_) (fun cdv A outer s H vs Q E hr h => ?_)
  · obtain ⟨_, _, _, _, _, rfl, _⟩ := h
    rfl
  obtain ⟨M, x, d, la, ls, rfl, hd, hb0, hla, hz, k⟩ := h
  refine ⟨_, (pss_cons (ps_if (PW.pt (pw_or (pt_not (pt_val (pe_callB call_isi (by rfl) B.isinstance (by decide +kernel) (pa_cons (pv 0) (pa_cons (pe_bltn (v := V.ty "tuple") (u := Value.type "tuple") (by rfl) B.tuple (by decide +kernel) rfl) pa_nil))))) (pw_or1 (pt_not (pt_val (pc gis_number hr (pa_cons (pe_callB call_len_seq (by rfl) B.len (by decide +kernel) (pa_cons (pv 0) pa_nil)) (pa_cons pe_int (pa_cons (pe_glob (v := V.int _) rfl hMOST_INPUTS ⟨_, rfl⟩) pa_nil)))))))))
      (pss_one (ps_ret pe_bl))
      pss_nil)
    (pss_one (ps_ret (pe_callB (cr_all rfl) (by rfl) B.all (by decide +kernel) (pa_cons (pe_lc (own := [("rows", 2)]) (g := gName 2) (tt := tYes) rfl sc.nd (pi_tup (pv 0)) (blkOk_by (N := ["allowed", "labels", "rows"]) (sc := defScope s_are_inputs) (by decide +kernel)) (fun _ _ _ _ _ => pg_name (i := 2) sc.nd rfl (Or.inl rfl)) (fun _ _ _ _ _ => pts_nil) (fun _ _ _ _ _ => (pc g_are_rows hr (pa_cons (pv 2) (pa_cons (pv 1) pa_nil))))) pa_nil))))), ?_⟩
  refine ⟨_, rfl, x, _, _, _, isTup d, rfl, ClsV.ty _, hd.ty, kit_ty (kit_tup d), _, rfl, ?_⟩
  cases ht : isTup d with
  | false =>
    refine iteT ?_
    refine iteT ?_
    have e : areInputs ls d = false := by cases d <;> first | rfl | cases ht
    rw [e] at k
    exact k H (Same.refl _)
  | true =>
    refine iteF ?_
    obtain ⟨ds, rfl⟩ := isTup_of ht
    obtain ⟨a, xs, rfl, ha, hx⟩ := dn_tup hd
    have e : areInputs ls (.tuple ds) = (isNum (.int (ds.length : Nat)) 1 4 && ds.all (areRows ls)) := rfl
    refine ⟨_, rfl, a, _, rfl, .inr ha, M, _, .int ((xs.length : Nat) : Int), 1, 4, rfl, .int _, _, rfl, ?_⟩
    rw [hx.len]
    rw [e] at k
    cases hn : isNum (.int (ds.length : Nat)) 1 4 with
    | false =>
      refine iteT ?_
      rw [hn] at k
      exact k H (Same.refl _)
    | true =>
      refine iteF ?_
      rw [hn, Bool.true_and] at k
      refine ⟨_, rfl, a, rfl, ⟨_, ha⟩, fun p hp => ?_⟩
      refine itt_walk (K := K) (a := a) (xs := xs) (fun i H' => Same H H' ∧ H' p = some (.lst (((ds.take i).map (areRows ls)).map V.bl))) ⟨same_new hp _, upd_same⟩ (fun i H' _ z => z.1.seqT ha) ?_ ?_
      · rintro i y H' hy ⟨sm, hH⟩
        obtain ⟨dy, hdy, hyd⟩ := hx.of hy
        have few := bulk_mem hb0 (List.mem_of_getElem? hdy)
        have il := bulk_len hb0
        refine ⟨rfl, ?_⟩
        refine ⟨_, rfl, _, rfl, M, y, dy, la, ls, rfl, hyd.stay (Same.go sm), few, sm.seqT hla, hz, fun H2 s2 => ?_⟩
        refine ⟨_, s2 _ _ hH, ?_, same_own (sm.trans s2) hp _, ?_⟩
        · rw [List.length_map, List.length_map, List.length_take]
          exact Nat.lt_of_le_of_lt (show _ ≤ 1000000 by omega) (by decide)
        · rw [upd_same, take_more hdy, List.map_append, List.map_append]
          rfl
      · rintro H' ⟨sm, hH⟩
        rw [List.take_of_length_le (by rw [hx.len]; exact Nat.le_refl _)] at hH
        refine ⟨p, _, rfl, SqL.of hH, ?_⟩
        rw [List.all_map]
        exact k H' sm
theorem pow60 : ∀ n, n < 5 → (60 : Int) ^ n ≤ 60 ^ 4 := by decide
theorem labels_tup {D : Int} {ms : List PyData} (h : isNum (.int D) 2 4 = true) : areLabels (.int D) (.tuple ms) = (decide (((ms.length : Nat) : Int) = D) && (ms.all (isNum · 1 60) && decide (prodD ms ≤ 4000))) := by
  unfold areLabels
  rw [h, Bool.true_and]
  rfl
theorem labels_no {d dL : PyData} (h : isTup dL = false) : areLabels d dL = false := by
  unfold areLabels
  cases dL <;> first | exact Bool.and_false _ | cases h
def spProduct (K : PySem.W.Frag) : Sp := fun vs H Q _ => ∃ (a : Addr) (ms : List PyData), vs = [.ref a] ∧ SqT K H a ((ms.map numD).map V.int) ∧ ms.all (isNum · 1 60) = true ∧ ms.length ≤ 4 ∧ Q (.int (prodD ms)) H
theorem ok_product {f : Addr} {fd : FuncData} (F : Fun K "product_of" "product_of" sproduct_of f fd) : FnOk P w K mg base CX0 1 f fd ["numbers"] (spProduct K) := by
  have sc : FnScope ["numbers", "product", "number"] ["numbers"] (defScope sproduct_of) := ⟨rfl, rfl, rfl, by decide +kernel, rfl, by decide +kernel, by decide +kernel⟩
  refine F.ok sc (fun vs H Q E h => ?_) (fun cdv A outer s H vs Q E hr h => ?_)
  · obtain ⟨_, _, rfl, _⟩ := h
    rfl
  obtain ⟨a, ms, rfl, ha, hall, h4, k⟩ := h
  refine ⟨_, (pss_cons (ps_set (i := 1) sc.nd rfl (Or.inl rfl) pe_int)
    (pss_cons (ps_for PassesOwn.never rfl (pi_tup (pv 0)) (pg_name (i := 2) sc.nd rfl (Or.inl rfl))
      (pss_one (ps_set (i := 1) sc.nd rfl (Or.inl rfl) (pe_op op_mul (pv 1) (pv 2)))))
    (pss_one (ps_ret (pv 1))))), ?_⟩
  refine ⟨_, rfl, a, rfl, ⟨_, ha⟩, for_tup (K := K) (a := a) (xs := (ms.map numD).map V.int) (fun i σ H' => H' = H ∧ ∃ mv : Option V, σ = [some (.ref a), some (.int (prodD (ms.take i))), mv])
    ⟨rfl, none, rfl⟩ (fun i σ H' _ z => by rw [z.1]; exact ha) ?_ ?_⟩
  · rintro i v σ H' hv ⟨rfl, mv, rfl⟩
    obtain ⟨n, hn, rfl⟩ := item_of hv
    obtain ⟨dm, hdm, rfl⟩ : ∃ dm, ms[i]? = some dm ∧ numD dm = n := by
      rw [List.getElem?_map] at hn
      cases e : ms[i]? with
      | none => rw [e] at hn; cases hn
      | some z => rw [e] at hn; exact ⟨z, rfl, Option.some.inj hn⟩
    have hdm60 := List.all_eq_true.mp hall dm (List.mem_of_getElem? hdm)
    obtain ⟨em, m1, m60⟩ := num_of hdm60
    have hall2 : (ms.take i).all (isNum · 1 60) = true := List.all_eq_true.mpr fun x hx => List.all_eq_true.mp hall x (List.mem_of_mem_take hx)
    obtain ⟨p1, p2⟩ := prod_le _ hall2
    have p3 : prodD (ms.take i) ≤ 60 ^ 4 := Int.le_trans p2 (by
      have h4 : (ms.take i).length ≤ 4 := by rw [List.length_take]; omega
      exact pow60 _ (by omega))
    refine ⟨_, rfl, _, rfl, _, _, rfl, rfl, .inr (by omega), ?_⟩
    refine ⟨rfl, some (.int (numD dm)), ?_⟩
    rw [take_more hdm, prod_more]
    rfl
  · rintro σ H' ⟨rfl, mv, rfl⟩
    rw [List.take_of_length_le (by rw [List.length_map, List.length_map]; exact Nat.le_refl _)]
    exact ⟨_, rfl, k⟩
def spLabels (K : PySem.W.Frag) : Sp := fun vs H Q _ => ∃ (M : Addr → Prop) (x y : V) (dD dL : PyData), vs = [x, y] ∧ Dn M K H x dD ∧ Dn M K H y dL ∧ ∀ H', Same H H' → Q (.bl (areLabels dD dL)) H'
theorem ok_labels {f : Addr} {fd : FuncData} (B : Blt mg) (C : Cst mg) (gis_number : Has P w K mg base CX0 1 "is_number" ["value", "low", "high"] (spNumber K)) (gproduct_of : Has P w K mg base CX0 1 "product_of" ["numbers"] (spProduct K))
    (F : Fun K "are_labels" "are_labels" sare_labels f fd) : FnOk P w K mg base CX0 2 f fd ["D", "labels"] (spLabels K) := by
  have sc : FnScope ["D", "labels", "many"] ["D", "labels"] (defScope sare_labels) := ⟨rfl, rfl, rfl, by decide +kernel, rfl, by decide +kernel, by decide +kernel⟩
  obtain ⟨t1, hLEAST_COLOURS⟩ := C.LEAST_COLOURS
  obtain ⟨t2, hMOST_COLOURS⟩ := C.MOST_COLOURS
  obtain ⟨t3, hMOST_LABELS⟩ := C.MOST_LABELS
  obtain ⟨t4, hMOST_ROWS⟩ := C.MOST_ROWS
  refine F.ok sc (fun vs H Q E h => ?_) (fun cdv A outer s H vs Q E hr h => ?_)
  · obtain ⟨_, _, _, _, _, rfl, _⟩ := h
    rfl
  obtain ⟨M, x, y, dD, dL, rfl, hD, hL, k⟩ := h
  refine ⟨_, (pss_cons (ps_if (pt_not (pt_val (pc gis_number hr (pa_cons (pv 0) (pa_cons (pe_glob (v := V.int _) rfl hLEAST_COLOURS ⟨_, rfl⟩) (pa_cons (pe_glob (v := V.int _) rfl hMOST_COLOURS ⟨_, rfl⟩) pa_nil))))))
      (pss_one (ps_ret pe_bl))
      pss_nil)
    (pss_cons (ps_if (PW.pt (pw_or (pt_not (pt_val (pe_callB call_isi (by rfl) B.isinstance (by decide +kernel) (pa_cons (pv 1) (pa_cons (pe_bltn (v := V.ty "tuple") (u := Value.type "tuple") (by rfl) B.tuple (by decide +kernel) rfl) pa_nil))))) (pw_or1 (pt_cmpR op_nei (pe_callB call_len_seq (by rfl) B.len (by decide +kernel) (pa_cons (pv 1) pa_nil)) (pv 0) (nomark _)))))
      (pss_one (ps_ret pe_bl))
      pss_nil)
    (pss_cons (ps_if (pt_not (pt_val (pe_callB (cr_all rfl) (by rfl) B.all (by decide +kernel) (pa_cons (pe_lc (own := [("many", 2)]) (g := gName 2) (tt := tYes) rfl sc.nd (pi_tup (pv 1)) (blkOk_by (N := ["D", "labels", "many"]) (sc := defScope sare_labels) (by decide +kernel)) (fun _ _ _ _ _ => pg_name (i := 2) sc.nd rfl (Or.inl rfl)) (fun _ _ _ _ _ => pts_nil) (fun _ _ _ _ _ => (pc gis_number hr (pa_cons (pv 2) (pa_cons pe_int (pa_cons (pe_glob (v := V.int _) rfl hMOST_LABELS ⟨_, rfl⟩) pa_nil)))))) pa_nil))))
      (pss_one (ps_ret pe_bl))
      pss_nil)
    (pss_one (ps_ret (pe_cmpR op_le (pc gproduct_of hr (pa_cons (pv 1) pa_nil)) (pe_glob (v := V.int _) rfl hMOST_ROWS ⟨_, rfl⟩) (nomark _))))))), ?_⟩
  refine ⟨_, rfl, M, x, dD, 2, 4, rfl, hD, _, rfl, ?_⟩
  have no : areLabels dD dL = false → ∀ H', Same H H' → Q (.bl false) H' := fun e H' sm => by have := k H' sm; rw [e] at this; exact this
  cases hn : isNum dD 2 4 with
  | false =>
    refine iteT ?_
    refine no ?_ H (Same.refl _)
    unfold areLabels
    rw [hn]
    rfl
  | true =>
    refine iteF ?_
    obtain ⟨eD, l2, l4⟩ := num_of hn
    generalize numD dD = D at eD l2 l4
    subst eD
    obtain rfl := dn_int hD
    refine ⟨_, rfl, y, _, _, _, isTup dL, rfl, ClsV.ty _, hL.ty, kit_ty (kit_tup dL), _, rfl, ?_⟩
    cases ht : isTup dL with
    | false =>
      refine iteT ?_
      refine iteT ?_
      exact no (labels_no ht) H (Same.refl _)
    | true =>
      refine iteF ?_
      obtain ⟨ms, rfl⟩ := isTup_of ht
      have e1 : areLabels (.int D) (.tuple ms) = (decide (((ms.length : Nat) : Int) = D) && (ms.all (isNum · 1 60) && decide (prodD ms ≤ 4000))) := labels_tup hn
      rw [e1] at k no
      obtain ⟨a, xs, rfl, ha, hx⟩ := dn_tup hL
      refine ⟨_, rfl, a, _, rfl, .inr ha, _, rfl, _, _, rfl, rfl, _, rfl, ?_⟩
      rw [hx.len]
      cases hl : decide (((ms.length : Nat) : Int) = D) with
      | false =>
        refine iteT ?_
        exact no (by rw [hl]; rfl) H (Same.refl _)
      | true =>
        refine iteF ?_
        have hl' := dec_t hl
        rw [hl, Bool.true_and] at k no
        refine ⟨_, rfl, a, rfl, ⟨_, ha⟩, fun p hp => ?_⟩
        refine itt_walk (K := K) (a := a) (xs := xs) (fun i H' => Same H H' ∧ H' p = some (.lst (((ms.take i).map (isNum · 1 60)).map V.bl))) ⟨same_new hp _, upd_same⟩ (fun i H' _ z => z.1.seqT ha) ?_ ?_
        · rintro i v H' hv ⟨sm, hH⟩
          obtain ⟨dm, hdm, hvd⟩ := hx.of hv
          refine ⟨rfl, ?_⟩
          refine ⟨_, rfl, M, v, dm, 1, 60, rfl, hvd.stay (Same.go sm), ?_⟩
          refine ⟨_, hH, ?_, same_own sm hp _, ?_⟩
          · rw [List.length_map, List.length_map, List.length_take]
            exact Nat.lt_of_le_of_lt (show _ ≤ 1000 by omega) (by decide)
          · rw [upd_same, take_more hdm, List.map_append, List.map_append]
            rfl
        · rintro H' ⟨sm, hH⟩
          rw [List.take_of_length_le (by rw [hx.len]; exact Nat.le_refl _)] at hH
          refine ⟨p, _, rfl, SqL.of hH, ?_⟩
          rw [List.all_map]
          have e2 : ms.all (id ∘ (isNum · 1 60)) = ms.all (isNum · 1 60) := rfl
          refine ⟨_, rfl, ?_⟩
          rw [e2]
          cases hall : ms.all (isNum · 1 60) with
          | false =>
            refine iteT ?_
            exact no (by rw [hall]; rfl) H' sm
          | true =>
            refine iteF ?_
            rw [hall, Bool.true_and] at k
            have hms := labels_ints hall
            have ha2 : SqT K H' a ((ms.map numD).map V.int) := by
              have q := hx
              rw [hms] at q
              rw [← ints_vs q]
              exact sm.seqT ha
            exact ⟨_, rfl, a, ms, rfl, ha2, hall, by omega, _, _, rfl, rfl, k H' sm⟩
end
section
variable {P : Program} {w : World} {K : PySem.W.Frag} {mg : Str → Option Value} {base : Heap}
/-- the first part may be held against a text -/
def WordOk (d : PyData) : Prop := ∀ w r, d = .tuple (w :: r) → r.length = 4 → SeqAt.shaped w = true
def spTaskB (K : PySem.W.Frag) : Sp := fun vs H Q _ => ∃ (M : Addr → Prop) (x : V) (d : PyData), vs = [x] ∧ Dn M K H x d ∧ d.bulk ≤ 1000000 ∧ WordOk d ∧ ∀ H', Same H H' → Q (.bl (isTask d)) H'
theorem shaped_dp {M : Addr → Prop} {H : Hp} {v : V} {d : PyData} (h : Dn M K H v d) (s : SeqAt.shaped d = true) : Dp K H v d := Dn.dp d (PyData.hasDict_of_canLay d (SeqAt.canLay_of_shaped s)) h
theorem word_eqv (d : PyData) (x : Str) : PyData.eqv d (.str x) = match d with
    | .str y => decide (y = x)
    | _ => false := by
  cases d with
  | str y =>
    simp only [PyData.eqv]
    by_cases h : y = x
    · rw [decide_eq_true h, h]
      exact beq_self_eq_true x
    · rw [decide_eq_false h]
      exact beq_eq_false_iff_ne.mpr h
  | _ => simp [PyData.eqv]
theorem is_word (d : PyData) : PyData.eqv d (.str "task") = isWord d := by
  rw [word_eqv]
  rfl
theorem labels_of {dD dL : PyData} (h : areLabels dD dL = true) : ∃ D, dD = .int D ∧ 2 ≤ D ∧ D ≤ 4 ∧ dL = tupI (intsD dL) ∧ (((intsD dL).length : Nat) : Int) = D := by
  unfold areLabels at h
  rw [Bool.and_eq_true] at h
  obtain ⟨h1, h2⟩ := h
  obtain ⟨e, l, u⟩ := num_of h1
  cases dL with
  | tuple ms =>
    have h2' : (decide (((ms.length : Nat) : Int) = numD dD) && (ms.all (isNum · 1 60) && decide (prodD ms ≤ 4000))) = true := h2
    rw [Bool.and_eq_true, Bool.and_eq_true, decide_eq_true_eq] at h2'
    refine ⟨numD dD, e, l, u, ?_, ?_⟩
    · show PyData.tuple ms = .tuple ((ms.map numD).map PyData.int)
      rw [← labels_ints h2'.2.1]
    · show (((ms.map numD).length : Nat) : Int) = _
      rw [List.length_map]
      exact h2'.1
  | _ => cases h2
theorem ok_taskb {f : Addr} {fd : FuncData} (B : Blt mg) (gare_labels : Has P w K mg base CX0 2 "are_labels" ["D", "labels"] (spLabels K)) (g_are_inputs : Has P w K mg base CX0 4 "_are_inputs" ["allowed", "labels"] (spInputs K))
    (F : Fun K "is_task" "is_task" sis_task f fd) : FnOk P w K mg base CX0 5 f fd ["task"] (spTaskB K) := by
  have sc : FnScope ["task", "_", "D", "labels", "white", "black"] ["task"] (defScope sis_task) := ⟨rfl, rfl, rfl, by decide +kernel, rfl, by decide +kernel, by decide +kernel⟩
  refine F.ok sc (fun vs H Q E h => ?_) (fun cdv A outer s H vs Q E hr h => ?_)
  · obtain ⟨_, _, _, rfl, _⟩ := h
    rfl
  obtain ⟨M, x, d, rfl, hd, hb, hw, k⟩ := h
  refine ⟨_, (pss_cons (ps_if (PW.pt (pw_or (pt_not (pt_val (pe_callB call_isi (by rfl) B.isinstance (by decide +kernel) (pa_cons (pv 0) (pa_cons (pe_bltn (v := V.ty "tuple") (u := Value.type "tuple") (by rfl) B.tuple (by decide +kernel) rfl) pa_nil))))) (pw_or (pt_cmpR op_nei (pe_callB call_len_seq (by rfl) B.len (by decide +kernel) (pa_cons (pv 0) pa_nil)) pe_int (nomark _)) (pw_or1 (pt_cmpR (op_neD hr.units) (pe_ix ix_tup (pv 0) pe_int (fun _ _ => rfl)) pe_str (nomark _))))))
      (pss_one (ps_ret pe_bl))
      pss_nil)
    (pss_cons (ps_asg (pv 0) (pg_tup rfl (pgs_cons (pg_name (i := 1) sc.nd rfl (Or.inl rfl)) (pgs_cons (pg_name (i := 2) sc.nd rfl (Or.inl rfl)) (pgs_cons (pg_name (i := 3) sc.nd rfl (Or.inl rfl)) (pgs_cons (pg_name (i := 4) sc.nd rfl (Or.inl rfl)) (pgs_cons (pg_name (i := 5) sc.nd rfl (Or.inl rfl)) pgs_nil)))))))
    (pss_cons (ps_if (pt_not (pt_val (pc gare_labels hr (pa_cons (pv 2) (pa_cons (pv 3) pa_nil)))))
      (pss_one (ps_ret pe_bl))
      pss_nil)
    (pss_one (ps_ret (pe_and (pc g_are_inputs hr (pa_cons (pv 4) (pa_cons (pv 3) pa_nil))) (pe_one (pc g_are_inputs hr (pa_cons (pv 5) (pa_cons (pv 3) pa_nil)))))))))), ?_⟩
  have no : isTask d = false → Q (.bl false) H := fun e => by have := k H (Same.refl _); rw [e] at this; exact this
  refine ⟨_, rfl, x, _, _, _, isTup d, rfl, ClsV.ty _, hd.ty, kit_ty (kit_tup d), _, rfl, ?_⟩
  cases ht : isTup d with
  | false =>
    refine iteT ?_
    refine iteT ?_
    exact no (by cases d <;> first | rfl | cases ht)
  | true =>
    refine iteF ?_
    obtain ⟨ds, rfl⟩ := isTup_of ht
    obtain ⟨a, xs, rfl, ha, hx⟩ := dn_tup hd
    refine ⟨_, rfl, a, _, rfl, .inr ha, _, _, rfl, rfl, _, rfl, ?_⟩
    by_cases hl : ds.length = 5
    · obtain ⟨d0, d1, d2, d3, d4, rfl⟩ : ∃ d0 d1 d2 d3 d4, ds = [d0, d1, d2, d3, d4] := by
        match ds, hl with
        | [d0, d1, d2, d3, d4], _ => exact ⟨_, _, _, _, _, rfl⟩
      have e5 : ((xs.length : Nat) : Int) = 5 := by rw [hx.len]; rfl
      rw [decide_eq_true e5]
      refine iteF ?_
      cases hx with
      | @cons v0 _ _ _ h0 hx =>
      cases hx with
      | @cons v1 _ _ _ h1 hx =>
      cases hx with
      | @cons v2 _ _ _ h2 hx =>
      cases hx with
      | @cons v3 _ _ _ h3 hx =>
      cases hx with
      | @cons v4 _ _ _ h4 hx =>
      cases hx
      have sh := hw d0 _ rfl rfl
      have eT : isTask (.tuple [d0, d1, d2, d3, d4]) = (isWord d0 && (areLabels d1 d2 && (areInputs (intsD d2) d3 && areInputs (intsD d2) d4))) := rfl
      rw [eT] at k no
      refine ⟨_, rfl, a, _, _, _, rfl, rfl, ha, at_of (j := 0) rfl rfl, _, _, shaped_dp h0 sh, .str "task", sh, by decide +kernel, _, rfl, ?_⟩
      rw [is_word]
      cases hwd : isWord d0 with
      | false =>
        refine iteT ?_
        exact no (by rw [hwd]; rfl)
      | true =>
        refine iteF ?_
        rw [hwd, Bool.true_and] at k no
        refine ⟨_, rfl, a, _, rfl, ha, rfl, _, _, rfl, _, _, rfl, _, _, rfl, _, _, rfl, _, _, rfl, rfl, ?_⟩
        refine ⟨_, rfl, _, rfl, M, v1, v2, d1, d2, rfl, h1, h2, fun H0 s0 => ⟨_, rfl, ?_⟩⟩
        cases hlb : areLabels d1 d2 with
        | false =>
          refine iteT ?_
          have q := k H0 s0
          rw [hlb] at q
          exact q
        | true =>
          refine iteF ?_
          rw [hlb, Bool.true_and] at k no
          obtain ⟨D, rfl, D2, D4, e2, e2l⟩ := labels_of hlb
          have h2' := h2
          rw [e2] at h2'
          obtain ⟨la, lxs, rfl, hla, hlx⟩ := dn_tup h2'
          rw [ints_vs hlx] at hla
          have few : (intsD d2).length ≤ 1000 := by omega
          refine ⟨_, rfl, _, rfl, M, v3, d3, la, _, rfl, h3.stay (Same.go s0), bulk_mem hb (by simp), s0.seqT hla, few, fun H1 s01 => ?_⟩
          have s1 := s0.trans s01
          refine ⟨_, rfl, ?_⟩
          cases hw3 : areInputs (intsD d2) d3 with
          | false =>
            refine iteF ?_
            have q := k H1 s1
            rw [hw3] at q
            exact q
          | true =>
            refine iteT ?_
            refine ⟨_, rfl, _, rfl, M, v4, d4, la, _, rfl, h4.stay (Same.go s1), bulk_mem hb (by simp), s1.seqT hla, few, fun H2 s2 => ?_⟩
            have q := k H2 (s1.trans s2)
            rw [hw3] at q
            exact q
    · have e5 : ¬ ((xs.length : Nat) : Int) = 5 := by rw [hx.len]; omega
      rw [decide_eq_false e5]
      refine iteT ?_
      refine iteT ?_
      refine no ?_
      match ds, hl with
      | [], _ => rfl
      | [_], _ => rfl
      | [_, _], _ => rfl
      | [_, _, _], _ => rfl
      | [_, _, _, _], _ => rfl
      | [_, _, _, _, _], hl => exact absurd rfl hl
      | _ :: _ :: _ :: _ :: _ :: _ :: _, _ => rfl
def spCheckT (K : PySem.W.Frag) (C : Addr) : Sp := fun vs H Q E => ∃ (M : Addr → Prop) (x : V) (d : PyData), vs = [x] ∧ Dn M K H x d ∧ d.bulk ≤ 1000000 ∧ WordOk d ∧ (isTask d = true → ∀ H', Same H H' → Q .non H') ∧ (isTask d = false → ∀ H', Same H H' → E (.ref C) none H')
theorem ok_checkt {C : Addr} {f : Addr} {fd : FuncData} (eBadTask : Err K mg "BadTask" C) (gis_task : Has P w K mg base CX0 5 "is_task" ["task"] (spTaskB K)) (F : Fun K "check_task" "check_task" scheck_task f fd) : FnOk P w K mg base (L2.CX P w) 6 f fd ["task"] (spCheckT K C) := by
  have sc : FnScope ["task"] ["task"] (defScope scheck_task) := ⟨rfl, rfl, rfl, by decide +kernel, rfl, by decide +kernel, by decide +kernel⟩
  refine F.okX sc (fun vs H Q E h => ?_) (fun cdv A outer s H vs Q E hr h => ?_)
  · obtain ⟨_, _, _, rfl, _⟩ := h
    rfl
  obtain ⟨M, x, d, rfl, hd, hb, hw, kt, kf⟩ := h
  refine ⟨_, (pss_one (ps_if (pt_not (pt_val (pc gis_task hr (pa_cons (pv 0) pa_nil))))
      (pss_one (ps_raise rfl (takes_of rfl rfl rfl rfl) (pmk_own PySem.F.excBase_ValueError eBadTask.xi eBadTask.g eBadTask.k (raises_own eBadTask.b eBadTask.t) rfl)))
      pss_nil)), ?_⟩
  refine ⟨_, rfl, M, x, d, rfl, hd, hb, hw, fun H' sm => ⟨_, rfl, ?_⟩⟩
  cases hn : isTask d with
  | true =>
    refine iteF ?_
    exact kt hn H' sm
  | false =>
    refine iteT ?_
    exact kf hn H' sm
/-- the parts of a task -/
theorem task_parts {d : PyData} (h : isTask d = true) : ∃ D ls dW dB, d = .tuple [.str "task", .int D, tupI ls, dW, dB] ∧ 2 ≤ D ∧ D ≤ 4 ∧ ((ls.length : Nat) : Int) = D ∧ areLabels (.int D) (tupI ls) = true ∧ areInputs ls dW = true ∧ areInputs ls dB = true := by
  cases d with
  | tuple ds =>
    match ds, h with
    | [w, dD, dL, dW, dB], h =>
      have h' : (isWord w && (areLabels dD dL && (areInputs (intsD dL) dW && areInputs (intsD dL) dB))) = true := h
      rw [Bool.and_eq_true, Bool.and_eq_true, Bool.and_eq_true] at h'
      obtain ⟨h1, h2, h3, h4⟩ := h'
      obtain ⟨D, rfl, D2, D4, e, el⟩ := labels_of h2
      have ew : w = .str "task" := by
        cases w with
        | str x =>
          have : decide (x = "task") = true := h1
          rw [dec_t this]
        | _ => cases h1
      rw [e] at h2
      exact ⟨D, intsD dL, dW, dB, by rw [ew, ← e], D2, D4, el, h2, h3, h4⟩
  | _ => cases h
end
section
/-! rows of ints -/
theorem eqv_all_i : ∀ a b : List Int, PyData.eqvAll (a.map PyData.int) (b.map PyData.int) = decide (a = b)
  | [], [] => by simp [PyData.eqvAll]
  | [], _ :: _ => by simp [PyData.eqvAll]
  | _ :: _, [] => by simp [PyData.eqvAll]
  | x :: a, y :: b => by
    rw [List.map_cons, List.map_cons, PyData.eqvAll, eqv_all_i a b]
    simp only [PyData.eqv]
    by_cases h : x = y
    · subst h
      simp
    · simp [h]
theorem eqv_i (a b : List Int) : PyData.eqv (tupI a) (tupI b) = decide (a = b) := by
  unfold tupI
  simp only [PyData.eqv]
  exact eqv_all_i a b
theorem any_i (rs : List (List Int)) (r : List Int) : ((rs.map tupI).any fun z => PyData.eqv z (tupI r)) = decide (r ∈ rs) := by
  rw [List.any_map]
  have e : ((fun z => PyData.eqv z (tupI r)) ∘ tupI) = fun a => decide (a = r) := by
    funext a
    exact eqv_i a r
  rw [e]
  induction rs with
  | nil => simp
  | cons a rs ih =>
    rw [List.any_cons, ih]
    by_cases h : a = r
    · simp [h]
    · have h' : ¬ r = a := fun z => h z.symm
      simp [h, h']
theorem lay_i : ∀ a : List Int, PyData.canLayAll0 (a.map PyData.int) = true
  | [] => by simp [PyData.canLayAll0]
  | x :: a => by
    rw [List.map_cons, PyData.canLayAll0, lay_i a]
    simp [PyData.canLay0]
theorem lay_t : ∀ rs : List (List Int), PyData.canLayAll0 (rs.map tupI) = true
  | [] => by simp [PyData.canLayAll0]
  | x :: a => by
    rw [List.map_cons, PyData.canLayAll0, lay_t a]
    unfold tupI
    simp only [PyData.canLay0]
    rw [lay_i]
    rfl
theorem dep_t : ∀ rs : List (List Int), PyData.depthAll (rs.map tupI) ≤ 1
  | [] => by simp [PyData.depthAll]
  | x :: a => by
    have := dep_t a
    rw [List.map_cons, PyData.depthAll, row_depth]
    omega
theorem shaped_i (r : List Int) : SeqAt.shaped (tupI r) = true := by
  unfold SeqAt.shaped
  rw [row_depth]
  unfold tupI
  simp only [PyData.canLay0]
  rw [lay_i]
  rfl
theorem shaped_l (rs : List (List Int)) : SeqAt.shaped (.list (rs.map tupI)) = true := by
  have e : (PyData.list (rs.map tupI)).depth ≤ 64 := by
    simp only [PyData.depth]
    have := dep_t rs
    omega
  unfold SeqAt.shaped
  rw [decide_eq_true e, Bool.and_true]
  simp only [PyData.canLay0]
  exact lay_t rs
theorem row_snoc {ls : List Int} {m : Int} {ns : List Int} {z : Int} (h : ns.length = ls.length) : isRow (ls ++ [m]) (tupI (ns ++ [z])) = (isRow ls (tupI ns) && isNum (.int z) 0 (m - 1)) := by
  show (decide (((ns ++ [z]).map PyData.int).length = (ls ++ [m]).length) && _) = ((decide ((ns.map PyData.int).length = ls.length) && _) && _)
  rw [decide_eq_true (by simp [h]), decide_eq_true (by simp [h]), Bool.true_and, Bool.true_and, List.map_append, List.zip_append (by simp [h]), List.all_append]
  simp
theorem row_nil : isRow [] (tupI []) = true := by decide
theorem row_len {ls ns : List Int} (h : isRow ls (tupI ns) = true) : ns.length = ls.length := by
  have e := (row_ints h).2
  have : intsD (tupI ns) = ns := by
    show (ns.map PyData.int).map numD = ns
    rw [List.map_map]
    exact List.map_id'' (fun x => rfl) ns
  rw [← this]
  exact e
theorem intsD_t (ns : List Int) : intsD (tupI ns) = ns := by
  show (ns.map PyData.int).map numD = ns
  rw [List.map_map]
  exact List.map_id'' (fun x => rfl) ns
/-- the rows of an input -/
def Good (ls : List Int) (rows : List (List Int)) : Prop := rows.length ≤ 5 ∧ (∀ r ∈ rows, isRow ls (tupI r) = true) ∧ rows.Pairwise (· < ·)
theorem le_tr (a b c : List Int) (h1 : leR a b = true) (h2 : leR b c = true) : leR a c = true := by
  unfold leR at *
  simp only [Bool.not_eq_true', decide_eq_false_iff_not] at *
  exact List.le_trans (show a ≤ b from h1) (show b ≤ c from h2)
theorem le_to (a b : List Int) : (leR a b || leR b a) = true := by
  unfold leR
  simp only [Bool.or_eq_true, Bool.not_eq_true', decide_eq_false_iff_not]
  exact List.le_total a b
theorem good_sort {ls : List Int} {rows : List (List Int)} (n5 : rows.length ≤ 5) (nd : rows.Nodup) (ok : ∀ r ∈ rows, isRow ls (tupI r) = true) : Good ls (rows.mergeSort leR) := by
  have pm : (rows.mergeSort leR).Perm rows := List.mergeSort_perm rows leR
  refine ⟨by rw [pm.length_eq]; exact n5, fun r hr => ok r (pm.mem_iff.mp hr), ?_⟩
  have p1 : (rows.mergeSort leR).Pairwise (fun a b => leR a b = true) := List.pairwise_mergeSort le_tr le_to rows
  have p2 : (rows.mergeSort leR).Nodup := pm.nodup_iff.mpr nd
  refine (List.Pairwise.and p1 p2).imp fun {a b} h => ?_
  obtain ⟨h1, h2⟩ := h
  unfold leR at h1
  simp only [Bool.not_eq_true', decide_eq_false_iff_not] at h1
  by_cases q : a < b
  · exact q
  · exact absurd (List.le_antisymm (show a ≤ b from h1) (show b ≤ a from q)) h2
theorem good_rows {ls : List Int} {rows : List (List Int)} (g : Good ls rows) : areRows ls (.tuple (rows.map tupI)) = true := by
  obtain ⟨_, ok, pw⟩ := g
  rw [rows_all, List.all_eq_true]
  intro i hi
  have il : i < rows.length := by simpa using List.mem_range.mp hi
  have gi : (rows.map tupI).getD i .none = tupI rows[i] := getD_of (by simp [il])
  unfold rowAt
  rw [gi, ok _ (List.getElem_mem il), Bool.true_and]
  by_cases h0 : i = 0
  · rw [decide_eq_true h0]
    rfl
  · have il2 : i - 1 < rows.length := by omega
    have g1 : (rows.map tupI).getD (i - 1) .none = tupI rows[i - 1] := getD_of (by simp [il2])
    rw [g1, intsD_t, intsD_t, decide_eq_true (List.pairwise_iff_getElem.mp pw (i - 1) i il2 il (by omega)), Bool.or_true]
end
/-! ### the draws that the law makes of the script -/
section
variable {P : Program} {w : World} {K : PySem.W.Frag} {mg : Str → Option Value} {base : Heap}
/-- a new list of as many small numbers as are asked -/
def spDraws (K : PySem.W.Frag) : Sp := fun vs H Q _ => ∃ (a : Addr) (ns : List Int) (m : Nat), vs = [.ref a, .int m] ∧ SqL K H a (ns.map V.int) ∧ ns.length ≤ 63 ∧ m ≤ 2000 ∧
  ∀ (p : Addr) (H' : Hp) (ds : List Int), H p = none → Same H H' → H' p = some (.lst (ds.map V.int)) → ds.length = m → (∀ d ∈ ds, 0 ≤ d ∧ d < 2 ^ 31) → Q (.ref p) H'
theorem ok_draws {f : Addr} {fd : FuncData} (B : Blt mg) (F : Fun K "_law_draws" "_law_draws" s_law_draws f fd) : FnOk P w K mg base CX0 1 f fd ["script", "many"] (spDraws K) := by
  have sc : FnScope ["script", "many", "rests", "draws", "k", "cell", "mixed", "at"] ["script", "many"] (defScope s_law_draws) := ⟨rfl, rfl, rfl, by decide +kernel, rfl, by decide +kernel, by decide +kernel⟩
  refine F.ok sc (fun vs H Q E h => ?_) (fun cdv A outer s H vs Q E hr h => ?_)
  · obtain ⟨a, ns, m, rfl, _⟩ := h
    rfl
  obtain ⟨a, ns, m, rfl, hS, h63, hm, k⟩ := h
  refine ⟨_, (pss_cons (ps_setLc (i := 2) (own := [("cell", 5)]) (g := gName 5) (tt := tYes) rfl sc.nd rfl rfl (sw_true rfl rfl rfl (by decide +kernel)) (pi_list (pv 0)) (blkOk_by (N := ["script", "many", "rests", "draws", "k", "cell", "mixed", "at"]) (sc := defScope s_law_draws) (by decide +kernel)) (fun _ _ _ _ _ => pg_name (i := 5) sc.nd rfl (Or.inl rfl)) (fun _ _ _ _ _ => pts_nil) (fun _ _ _ _ _ => (pe_callB call_abs (by rfl) B.abs (by decide +kernel) (pa_cons (pe_callTy call_int1 (by rfl) B.int (by decide +kernel) (pa_cons (pv 5) pa_nil)) pa_nil))))
    (pss_cons (ps_set (i := 3) sc.nd rfl (Or.inl rfl) (pe_lst pa_nil))
    (pss_cons (ps_for PassesOwn.never rfl (pi_range1 (by rfl) B.range (pa_cons (pv 1) pa_nil)) (pg_name (i := 4) sc.nd rfl (Or.inl rfl))
      (pss_cons (ps_set (i := 5) sc.nd rfl (Or.inl rfl) (pv 4))
      (pss_cons (ps_if (pt_cmpR op_gt (pe_callB call_len_seq (by rfl) B.len (by decide +kernel) (pa_cons (pv 0) pa_nil)) pe_int (nomark _))
        (pss_cons (ps_set (i := 7) sc.nd rfl (Or.inl rfl) (pe_op op_mod (pv 4) (pe_callB call_len_seq (by rfl) B.len (by decide +kernel) (pa_cons (pv 0) pa_nil))))
        (pss_cons (ps_set (i := 5) sc.nd rfl (Or.inl rfl) (pe_callTy call_int1 (by rfl) B.int (by decide +kernel) (pa_cons (pe_ix ix_list (pv 0) (pv 7) (fun _ _ => rfl)) pa_nil)))
        (pss_one (ps_if (PW.pt (pw_and (pt_cmpR op_ge (pv 5) (pe_op op_pow pe_int pe_int) (nomark _)) (pw_and1 (pt_cmpR op_gt (pe_ix ix_list (pv 2) (pv 7) (fun _ _ => rfl)) pe_int (nomark _)))))
          (pss_cons (ps_expr (pe_bm PySem.F.plainAttrs_list PySem.F.slot_list_append PySem.F.type_list_append mt_append (pv 3) (pa_cons (pe_op op_mod (pe_callTy call_int1 (by rfl) B.int (by decide +kernel) (pa_cons (pe_ix ix_list (pv 2) (pv 7) (fun _ _ => rfl)) pa_nil)) pe_int) pa_nil)))
          (pss_cons (ps_asg (pe_op op_fdiv (pe_callTy call_int1 (by rfl) B.int (by decide +kernel) (pa_cons (pe_ix ix_list (pv 2) (pv 7) (fun _ _ => rfl)) pa_nil)) pe_int) (pg_sub (pv 2) (pv 7) set_list))
          (pss_one ps_continue)))
          pss_nil))))
        pss_nil)
      (pss_cons (ps_set (i := 6) sc.nd rfl (Or.inl rfl) (pe_op op_mod (pe_callTy call_int1 (by rfl) B.int (by decide +kernel) (pa_cons (pe_op op_add (pe_op op_add (pe_op op_mul (pv 5) pe_int) (pe_op op_mul (pv 4) pe_int)) pe_int) pa_nil)) pe_int))
      (pss_cons (ps_set (i := 6) sc.nd rfl (Or.inl rfl) (pe_op op_mod (pe_callTy call_int1 (by rfl) B.int (by decide +kernel) (pa_cons (pe_op op_add (pe_op op_fdiv (pe_op op_mul (pv 6) (pv 6)) pe_int) (pv 6)) pa_nil)) pe_int))
      (pss_one (ps_expr (pe_bm PySem.F.plainAttrs_list PySem.F.slot_list_append PySem.F.type_list_append mt_append (pv 3) (pa_cons (pe_op op_mod (pe_callTy call_int1 (by rfl) B.int (by decide +kernel) (pa_cons (pe_op op_add (pe_op op_fdiv (pe_op op_mul (pv 6) (pv 6)) pe_int) (pe_op op_mul (pv 4) pe_int)) pa_nil)) pe_int) pa_nil)))))))))
    (pss_one (ps_ret (pv 3)))))), ?_⟩
  -- rests
  refine ⟨_, rfl, a, rfl, ⟨_, hS⟩, fun r hr0 => ?_⟩
  refine lc_list (K := K) (a := a) (xs := ns.map V.int) (fun i H' => ∃ acc : List Int, acc.length = i ∧ H' r = some (.lst (acc.map V.int)) ∧ Same H H')
    ⟨[], rfl, upd_same, same_new hr0 _⟩ (fun i H' _ ⟨_, _, _, s⟩ => s.seq hS) ?_ ?_
  · rintro i y H' hi ⟨acc, hl, hD, s⟩
    obtain ⟨z, hz, rfl⟩ := item_of hi
    have hi63 : i < ns.length := (List.getElem?_eq_some_iff.mp hz).1
    refine ⟨rfl, ?_⟩

    refine ⟨_, rfl, .inl ⟨_, rfl, _, rfl, _, hD, small1000 (by rw [List.length_map]; omega), acc ++ [if z < 0 then -z else z], by simp [hl], ?_, same_own s hr0 _⟩⟩
    rw [upd_same, List.map_append]
    rfl
  rintro H1 ⟨rs, hrs, hr1, s1⟩
  rw [List.length_map] at hrs
  -- draws
  refine ⟨Nat.zero_le _, fun p hp1 => ?_⟩
  have hp0 : H p = none := s1.free hp1
  have npr : r ≠ p := ne_of_none hr1 hp1
  -- the loop
  refine ⟨_, rfl, (m : Int), rfl, by omega, by omega, for_range (lo := 0) (n := (m : Int).toNat) (fun i σ H' => ∃ (ds rs : List Int) (kv cv mv av : Option V), σ = [some (.ref a), some (.int m), some (.ref r), some (.ref p), kv, cv, mv, av] ∧
      H' r = some (.lst (rs.map V.int)) ∧ H' p = some (.lst (ds.map V.int)) ∧ rs.length = ns.length ∧ ds.length = i ∧ (∀ d ∈ ds, 0 ≤ d ∧ d < 2 ^ 31) ∧ Same H H')
    ⟨[], rs, none, none, none, none, rfl, by rw [upd_ne npr]; exact hr1, upd_same, hrs, rfl, by simp, same_own s1 hp0 _⟩ ?_ ?_⟩
  · rintro i σ H' hi ⟨ds, rs, kv, cv, mv, av, rfl, hr', hp', hrl, hdl, hb, s⟩
    have hi2 : ds.length < 2000 := by omega
    have grown : ∀ (d : Int), 0 ≤ d → d < 2 ^ 31 → ∀ z ∈ ds ++ [d], 0 ≤ z ∧ z < 2 ^ 31 := fun d h0 h1 z hz => by
      rcases List.mem_append.mp hz with q | q
      · exact hb z q
      · rw [List.mem_singleton.mp q]
        exact ⟨h0, h1⟩
    have put : ∀ (d : Int), (upd H' p (.lst (ds.map V.int ++ [V.int d]))) p = some (.lst ((ds ++ [d]).map V.int)) := fun d => by
      rw [upd_same, List.map_append]
      rfl
    have room : (ds.map V.int).length < sizeLine := by rw [List.length_map]; exact Nat.lt_trans hi2 (by decide)
    have m48 : -(2 ^ 64) < (48271 : Int) ∧ (48271 : Int) < 2 ^ 64 := by decide
    have m69 : -(2 ^ 64) < (69621 : Int) ∧ (69621 : Int) < 2 ^ 64 := by decide
    have m79 : -(2 ^ 64) < (7919 : Int) ∧ (7919 : Int) < 2 ^ 64 := by decide
    have b1 : ∀ x : Int, -(2 ^ 64) < x % 2147483647 ∧ x % 2147483647 < 2 ^ 64 := fun x => by omega
    have b2 : ∀ x : Int, -(2 ^ 64) < x % 2147483629 ∧ x % 2147483629 < 2 ^ 64 := fun x => by omega
    refine ⟨_, rfl, ?_⟩
    refine ⟨_, rfl, a, _, rfl, .inl (s.seq hS), _, _, rfl, rfl, _, rfl, ?_⟩
    refine ite2 (fun c => ?_) (fun c => ?_)
    · have c' := dec_t c
      rw [List.length_map] at c'
      have m0 : 0 ≤ (0 + (i : Int)) % (ns.length : Int) := Int.emod_nonneg _ (by omega)
      have m1 : (0 + (i : Int)) % (ns.length : Int) < (ns.length : Int) := Int.emod_lt_of_pos _ c'
      obtain ⟨z, _, _, hz⟩ := at_int m0 m1
      obtain ⟨y, hy0, _, hy⟩ := at_int (ns := rs) m0 (by rw [hrl]; exact m1)
      refine ⟨_, rfl, _, rfl, a, _, rfl, .inl (s.seq hS), _, _, rfl, rfl, (by rw [List.length_map]; exact c'), ?_⟩
      rw [List.length_map]
      refine ⟨_, rfl, _, rfl, a, _, _, _, rfl, rfl, s.seq hS, hz, .inl ⟨_, rfl, ?_⟩⟩
      refine ⟨_, rfl, _, _, rfl, rfl, ⟨by decide, by decide, by decide⟩, _, _, rfl, rfl, _, rfl, ?_⟩
      refine ite2 (fun _ => ?_) (fun _ => ?_)
      · refine ⟨_, rfl, _, rfl, r, _, _, _, rfl, rfl, SqL.of hr', hy, _, _, rfl, rfl, _, rfl, ?_⟩
        refine ite2 (fun _ => ?_) (fun _ => ?_)
        · refine ⟨_, rfl, .inl ⟨rfl, _, SqL.of hp'⟩, _, rfl, _, rfl, r, _, _, _, rfl, rfl, SqL.of hr', hy, .inl ⟨_, rfl, _, _, rfl, rfl, (by show (0 : Int) < 1000003; decide), p, _, _, rfl, rfl, hp', room, ?_⟩⟩
          have hr2 : (upd H' p (.lst (ds.map V.int ++ [V.int (y % 1000003)]))) r = some (.lst (rs.map V.int)) := by rw [upd_ne npr]; exact hr'
          refine ⟨_, rfl, _, rfl, r, _, _, _, rfl, rfl, SqL.of hr2, hy, .inl ⟨_, rfl, _, _, rfl, rfl, ⟨by decide, by decide⟩, _, rfl, _, rfl, r, _, _, ((0 + (i : Int)) % (ns.length : Int)).toNat, rfl, rfl, hr2, ix_of m0 (by rw [List.length_map, hrl]; exact m1), ?_⟩⟩
          refine ⟨ds ++ [y % 1000003], rs.set ((0 + (i : Int)) % (ns.length : Int)).toNat (y / 1000003), _, _, _, _, rfl, ?_, ?_, by rw [List.length_set]; exact hrl, by rw [List.length_append, List.length_singleton]; omega, grown _ (Int.emod_nonneg _ (by decide)) (Int.lt_trans (Int.emod_lt_of_pos _ (by decide)) (by decide)), same_own (same_own s hp0 _) hr0 _⟩
          · rw [upd_same, List.map_set]
          · rw [upd_ne npr.symm]
            exact put _
        · refine ⟨_, rfl, _, _, rfl, rfl, .inr m48, _, rfl, _, _, rfl, rfl, .inr m69, _, _, rfl, rfl, _, _, rfl, rfl, .inl ⟨_, rfl, _, _, rfl, rfl, (by show (0 : Int) < 2147483647; decide), ?_⟩⟩
          refine ⟨_, rfl, _, rfl, _, _, rfl, rfl, .inl (b1 _), _, _, rfl, rfl, ⟨by decide, by decide⟩, _, rfl, _, _, rfl, rfl, .inl ⟨_, rfl, _, _, rfl, rfl, (by show (0 : Int) < 2147483629; decide), ?_⟩⟩
          refine ⟨_, rfl, .inl ⟨rfl, _, SqL.of hp'⟩, _, rfl, _, rfl, _, _, rfl, rfl, .inl (b2 _), _, _, rfl, rfl, ⟨by decide, by decide⟩, _, rfl, _, _, rfl, rfl, .inr m79, _, _, rfl, rfl, .inl ⟨_, rfl, _, _, rfl, rfl, (by show (0 : Int) < 2147483629; decide), p, _, _, rfl, rfl, hp', room, ?_⟩⟩
          exact ⟨ds ++ [_], rs, _, _, _, _, rfl, by rw [upd_ne npr]; exact hr', put _, hrl, by rw [List.length_append, List.length_singleton]; omega, grown _ (Int.emod_nonneg _ (by decide)) (Int.lt_trans (Int.emod_lt_of_pos _ (by decide)) (by decide)), same_own s hp0 _⟩
      · refine ⟨_, rfl, _, _, rfl, rfl, .inr m48, _, rfl, _, _, rfl, rfl, .inr m69, _, _, rfl, rfl, _, _, rfl, rfl, .inl ⟨_, rfl, _, _, rfl, rfl, (by show (0 : Int) < 2147483647; decide), ?_⟩⟩
        refine ⟨_, rfl, _, rfl, _, _, rfl, rfl, .inl (b1 _), _, _, rfl, rfl, ⟨by decide, by decide⟩, _, rfl, _, _, rfl, rfl, .inl ⟨_, rfl, _, _, rfl, rfl, (by show (0 : Int) < 2147483629; decide), ?_⟩⟩
        refine ⟨_, rfl, .inl ⟨rfl, _, SqL.of hp'⟩, _, rfl, _, rfl, _, _, rfl, rfl, .inl (b2 _), _, _, rfl, rfl, ⟨by decide, by decide⟩, _, rfl, _, _, rfl, rfl, .inr m79, _, _, rfl, rfl, .inl ⟨_, rfl, _, _, rfl, rfl, (by show (0 : Int) < 2147483629; decide), p, _, _, rfl, rfl, hp', room, ?_⟩⟩
        exact ⟨ds ++ [_], rs, _, _, _, _, rfl, by rw [upd_ne npr]; exact hr', put _, hrl, by rw [List.length_append, List.length_singleton]; omega, grown _ (Int.emod_nonneg _ (by decide)) (Int.lt_trans (Int.emod_lt_of_pos _ (by decide)) (by decide)), same_own s hp0 _⟩
    · refine ⟨_, rfl, _, _, rfl, rfl, .inr m48, _, rfl, _, _, rfl, rfl, .inr m69, _, _, rfl, rfl, _, _, rfl, rfl, .inl ⟨_, rfl, _, _, rfl, rfl, (by show (0 : Int) < 2147483647; decide), ?_⟩⟩
      refine ⟨_, rfl, _, rfl, _, _, rfl, rfl, .inl (b1 _), _, _, rfl, rfl, ⟨by decide, by decide⟩, _, rfl, _, _, rfl, rfl, .inl ⟨_, rfl, _, _, rfl, rfl, (by show (0 : Int) < 2147483629; decide), ?_⟩⟩
      refine ⟨_, rfl, .inl ⟨rfl, _, SqL.of hp'⟩, _, rfl, _, rfl, _, _, rfl, rfl, .inl (b2 _), _, _, rfl, rfl, ⟨by decide, by decide⟩, _, rfl, _, _, rfl, rfl, .inr m79, _, _, rfl, rfl, .inl ⟨_, rfl, _, _, rfl, rfl, (by show (0 : Int) < 2147483629; decide), p, _, _, rfl, rfl, hp', room, ?_⟩⟩
      exact ⟨ds ++ [_], rs, _, _, _, _, rfl, by rw [upd_ne npr]; exact hr', put _, hrl, by rw [List.length_append, List.length_singleton]; omega, grown _ (Int.emod_nonneg _ (by decide)) (Int.lt_trans (Int.emod_lt_of_pos _ (by decide)) (by decide)), same_own s hp0 _⟩
  · rintro σ H' ⟨ds, rs, kv, cv, mv, av, rfl, hr', hp', hrl, hdl, hb, s⟩
    exact ⟨_, rfl, k p H' ds hp0 s hp' (by omega) hb⟩
/-- the next draw, below many; the place goes on by one -/
def spTake (K : PySem.W.Frag) : Sp := fun vs H Q _ => ∃ (h d : Addr) (ds : List Int) (i : Nat) (m : Int), vs = [.ref h, .int m] ∧ H h = some (.lst [.ref d, .int i]) ∧ H d = some (.lst (ds.map V.int)) ∧ 0 < m ∧ m < 1000000 ∧
  ∀ r : Int, 0 ≤ r → r < m → Q (.int r) (upd H h (.lst [.ref d, .int ((i + 1 : Nat) : Int)]))
theorem ok_take {f : Addr} {fd : FuncData} (B : Blt mg) (F : Fun K "_law_take" "_law_take" s_law_take f fd) : FnOk P w K mg base CX0 1 f fd ["hand", "many"] (spTake K) := by
  have sc : FnScope ["hand", "many", "at", "draws"] ["hand", "many"] (defScope s_law_take) := ⟨rfl, rfl, rfl, by decide +kernel, rfl, by decide +kernel, by decide +kernel⟩
  refine F.ok sc (fun vs H Q E h => ?_) (fun cdv A outer s H vs Q E hr h => ?_)
  · obtain ⟨h, d, ds, i, m, rfl, _⟩ := h
    rfl
  obtain ⟨h, d, ds, i, m, rfl, hh, hd, m0, m1, k⟩ := h
  refine ⟨_, (pss_cons (ps_set (i := 2) sc.nd rfl (Or.inl rfl) (pe_ix ix_list (pv 0) pe_int (fun _ _ => rfl)))
    (pss_cons (ps_asg (pe_op op_add (pv 2) pe_int) (pg_sub (pv 0) pe_int set_list))
    (pss_cons (ps_set (i := 3) sc.nd rfl (Or.inl rfl) (pe_ix ix_list (pv 0) pe_int (fun _ _ => rfl)))
    (pss_cons (ps_if (pt_cmpR op_ge (pv 2) (pe_callB call_len_seq (by rfl) B.len (by decide +kernel) (pa_cons (pv 3) pa_nil)) (nomark _))
      (pss_one (ps_ret pe_int))
      pss_nil)
    (pss_one (ps_ret (pe_op op_mod (pe_op op_fdiv (pe_callTy call_int1 (by rfl) B.int (by decide +kernel) (pa_cons (pe_ix ix_list (pv 3) (pv 2) (fun _ _ => rfl)) pa_nil)) pe_int) (pv 1)))))))), ?_⟩
  have ndh : d ≠ h := by
    rintro rfl
    rw [hh] at hd
    cases ds with
    | nil => cases hd
    | cons z ds => cases hd
  refine ⟨_, rfl, h, _, _, _, rfl, rfl, SqL.of hh, at_of (j := 1) rfl rfl, ?_⟩
  refine ⟨_, rfl, _, _, rfl, rfl, _, rfl, h, _, _, 1, rfl, rfl, hh, by rfl, ?_⟩
  refine ⟨_, rfl, h, _, _, _, rfl, rfl, SqL.of upd_same, at_of (j := 0) rfl rfl, ?_⟩
  have hd2 : (upd H h (.lst ([V.ref d, V.int (i : Int)].set 1 (.int ((i : Int) + 1))))) d = some (.lst (ds.map V.int)) := by rw [upd_ne ndh]; exact hd
  refine ⟨_, rfl, _, rfl, d, _, rfl, .inl (SqL.of hd2), _, _, rfl, rfl, _, rfl, ?_⟩
  have q : ∀ r : Int, 0 ≤ r → r < m → Q (.int r) (upd H h (.lst ([V.ref d, V.int (i : Int)].set 1 (.int ((i : Int) + 1))))) := k
  refine ite2 (fun _ => q 0 (by decide) m0) (fun c => ?_)
  have c' := dec_f c
  rw [List.length_map] at c'
  obtain ⟨z, _, _, hz⟩ := at_int (ns := ds) (i := (i : Int)) (by omega) (by omega)
  exact ⟨_, rfl, _, rfl, d, _, _, _, rfl, rfl, SqL.of hd2, hz, .inl ⟨_, rfl, _, _, rfl, rfl, ⟨by decide, by decide⟩, _, rfl, _, _, rfl, rfl, m0, q _ (Int.emod_nonneg _ (by omega)) (Int.emod_lt_of_pos _ m0)⟩⟩
end
section
variable {P : Program} {w : World} {K : PySem.W.Frag} {mg : Str → Option Value} {base : Heap}
theorem lt_small {n : Nat} (h : n ≤ 100000) : n < sizeLine := Nat.lt_of_le_of_lt h (by decide)
theorem ints_of {H : Hp} : ∀ {ns : List Int} {vs : List V}, DtAll K H vs (ns.map PyData.int) → vs = ns.map V.int
  | [], _, h => by
    cases h
    rfl
  | n :: ns, _, h => by
    cases h with
    | cons h1 h2 =>
      cases h1
      rw [List.map_cons, ← ints_of h2]
structure AccG (M : Addr → Prop) (K : PySem.W.Frag) (H0 : Hp) (p : Addr) (ds : List PyData) (H : Hp) : Prop where
  free : H0 p = none
  go : Go M H0 H
  ex : ∃ acc, H p = some (.lst acc) ∧ DtAll K H acc ds
theorem AccG.start {M : Addr → Prop} {H0 : Hp} {p : Addr} (h : H0 p = none) : AccG M K H0 p [] (upd H0 p (.lst [])) := ⟨h, Go.new h _, [], upd_same, .nil⟩
theorem AccG.step {M : Addr → Prop} {H0 H H' : Hp} {p : Addr} {ds : List PyData} (a : AccG M K H0 p ds H) (np : ¬ M p) (g : Go M H H') : AccG M K H0 p ds H' := by
  obtain ⟨acc, e, d⟩ := a.ex
  exact ⟨a.free, a.go.trans g, acc, g.out _ _ np e, d.stay g.tups⟩
theorem AccG.push {M : Addr → Prop} {H0 H : Hp} {p : Addr} {ds : List PyData} {v : V} {d : PyData} (a : AccG M K H0 p ds H) (hv : Dt K H v d) :
    ∃ acc, H p = some (.lst acc) ∧ acc.length = ds.length ∧ AccG M K H0 p (ds ++ [d]) (upd H p (.lst (acc ++ [v]))) := by
  obtain ⟨acc, e, d0⟩ := a.ex
  have t := tups_lst (ys := acc ++ [v]) e
  exact ⟨acc, e, d0.len, a.free, a.go.own a.free _, _, upd_same, (d0.stay t).app (.cons (hv.stay t) .nil)⟩
/-- the labels that a task tells -/
def spLRows (K : PySem.W.Frag) : Sp := fun vs H Q _ => ∃ (h d : Addr) (ds : List Int) (n : Nat) (la : Addr) (ls : List Int), vs = [.ref h, .ref la] ∧ Hand H h d ds n ∧ SqT K H la (ls.map V.int) ∧ 1 ≤ ls.length ∧ ls.length ≤ 4 ∧ (∀ m ∈ ls, 1 ≤ m ∧ m ≤ 60) ∧
  ∀ (v : V) (H' : Hp) (n' : Nat) (rows : List (List Int)), Go (· = h) H H' → Hand H' h d ds n' → Dt K H' v (.tuple (rows.map tupI)) → Good ls rows → Q v H'
theorem hand_out {H0 : Hp} {h d p : Addr} {ds : List Int} {n : Nat} (x : Hand H0 h d ds n) (hp : H0 p = none) : p ≠ h ∧ p ≠ d := ⟨(ne_of_none x.1 hp).symm, (ne_of_none x.2 hp).symm⟩
theorem row_top : ∀ ls : List Int, (∀ m ∈ ls, 1 ≤ m ∧ m ≤ 60) → isRow ls (tupI (ls.map fun m => m - 1)) = true := fun ls => by
  have go : ∀ i, i ≤ ls.length → (∀ m ∈ ls, 1 ≤ m ∧ m ≤ 60) → isRow (ls.take i) (tupI ((ls.take i).map fun m => m - 1)) = true := fun i => by
    induction i with
    | zero =>
      intro _ _
      rw [List.take_zero]
      exact row_nil
    | succ i ih =>
      intro hi ok
      have e : ls[i]? = some ls[i] := List.getElem?_eq_getElem (by omega)
      rw [take_more e, List.map_append]
      show isRow (ls.take i ++ [ls[i]]) (tupI ((ls.take i).map (fun m => m - 1) ++ [ls[i] - 1])) = true
      rw [row_snoc (by rw [List.length_map]), ih (by omega) ok, Bool.true_and]
      have := ok ls[i] (List.getElem_mem _)
      show (decide ((0 : Int) ≤ ls[i] - 1) && decide (ls[i] - 1 ≤ ls[i] - 1)) = true
      rw [decide_eq_true (by omega), decide_eq_true (Int.le_refl _)]
      rfl
  intro ok
  have r := go ls.length (Nat.le_refl _) ok
  rwa [List.take_of_length_le (Nat.le_refl _)] at r
set_option maxHeartbeats 2000000 in
theorem ok_lrows {f : Addr} {fd : FuncData} (B : Blt mg) (g_law_take : Has P w K mg base CX0 1 "_law_take" ["hand", "many"] (spTake K)) (F : Fun K "_law_rows" "_law_rows" s_law_rows f fd) : FnOk P w K mg base CX0 2 f fd ["hand", "labels"] (spLRows K) := by
  have sc : FnScope ["hand", "labels", "rows", "k", "row", "many"] ["hand", "labels"] (defScope s_law_rows) := ⟨rfl, rfl, rfl, by decide +kernel, rfl, by decide +kernel, by decide +kernel⟩
  refine F.ok sc (fun vs H Q E h => ?_) (fun cdv A outer s H vs Q E hr h => ?_)
  · obtain ⟨_, _, _, _, _, _, rfl, _⟩ := h
    rfl
  obtain ⟨h, d, ds, n0, la, ls, rfl, hh, hla, l1, l4, lok, k⟩ := h
  refine ⟨_, (pss_cons (ps_set (i := 2) sc.nd rfl (Or.inl rfl) (pe_lst pa_nil))
    (pss_cons (ps_for PassesOwn.never rfl (pi_range1 (by rfl) B.range (pa_cons (pc g_law_take hr (pa_cons (pv 0) (pa_cons pe_int pa_nil))) pa_nil)) (pg_name (i := 3) sc.nd rfl (Or.inl rfl))
      (pss_cons (ps_set (i := 4) sc.nd rfl (Or.inl rfl) (pe_callTy call_tuple_of (by rfl) B.tuple (by decide +kernel) (pa_cons (pe_lc (own := [("many", 5)]) (g := gName 5) (tt := tYes) rfl sc.nd (pi_tup (pv 1)) (blkOk_by (N := ["hand", "labels", "rows", "k", "row", "many"]) (sc := defScope s_law_rows) (by decide +kernel)) (fun _ _ _ _ _ => pg_name (i := 5) sc.nd rfl (Or.inl rfl)) (fun _ _ _ _ _ => pts_nil) (fun _ _ _ _ _ => (pc g_law_take hr (pa_cons (pv 0) (pa_cons (pv 5) pa_nil))))) pa_nil)))
      (pss_cons (ps_if (pt_cmpR op_eqi (pc g_law_take hr (pa_cons (pv 0) (pa_cons pe_int pa_nil))) pe_int (nomark _))
        (pss_one (ps_set (i := 4) sc.nd rfl (Or.inl rfl) (pe_callTy call_tuple_of (by rfl) B.tuple (by decide +kernel) (pa_cons (pe_lc (own := [("many", 5)]) (g := gName 5) (tt := tYes) rfl sc.nd (pi_tup (pv 1)) (blkOk_by (N := ["hand", "labels", "rows", "k", "row", "many"]) (sc := defScope s_law_rows) (by decide +kernel)) (fun _ _ _ _ _ => pg_name (i := 5) sc.nd rfl (Or.inl rfl)) (fun _ _ _ _ _ => pts_nil) (fun _ _ _ _ _ => (pe_op op_sub (pv 5) pe_int))) pa_nil))))
        pss_nil)
      (pss_one (ps_if (pt_cmpR (op_notInD hr.units2) (pv 4) (pv 2) (by with_unfolding_all rfl))
        (pss_one (ps_expr (pe_bm PySem.F.plainAttrs_list PySem.F.slot_list_append PySem.F.type_list_append mt_append (pv 2) (pa_cons (pv 4) pa_nil))))
        pss_nil)))))
    (pss_one (ps_ret (pe_callTy call_tuple_of (by rfl) B.tuple (by decide +kernel) (pa_cons (pe_callB (cr_sortR hr.units) (by rfl) B.sorted (by decide +kernel) (pa_cons (pv 2) pa_nil)) pa_nil)))))), ?_⟩
  refine ⟨Nat.zero_le _, fun p hp => ?_⟩
  obtain ⟨nph, npd⟩ := hand_out hh hp
  have hh1 := hh.new hp (.lst [])
  have a0 := AccG.start (M := (· = h)) (K := K) hp
  refine ⟨_, rfl, h, d, ds, n0, 6, rfl, hh1.1, hh1.2, by omega, by omega, fun r r0 r6 => ?_⟩
  have a1 := a0.step nph hh1.go
  refine ⟨r, rfl, by omega, by omega, for_range (lo := 0) (n := r.toNat) (fun i σ H' => ∃ (kv rv : Option V) (n : Nat) (rows : List (List Int)), σ = [some (.ref h), some (.ref la), some (.ref p), kv, rv, none] ∧ Hand H' h d ds n ∧ AccG (· = h) K H p (rows.map tupI) H' ∧
      rows.length ≤ i ∧ rows.Nodup ∧ ∀ r ∈ rows, isRow ls (tupI r) = true)
    ⟨none, none, _, [], rfl, hh1.next, a1, Nat.le_refl _, List.nodup_nil, fun r hr => absurd hr List.not_mem_nil⟩ ?_ ?_⟩
  · rintro i σ H' hi ⟨kv, rv, n, rows, rfl, hh, a, len, nd, ok⟩
    refine ⟨_, rfl, la, rfl, ⟨_, a.go.seqT hla⟩, fun q hq => ?_⟩
    obtain ⟨nqh, nqd⟩ := hand_out hh hq
    refine itt_walk (K := K) (a := la) (xs := ls.map V.int) (fun j H1 => ∃ (n1 : Nat) (ns : List Int), Hand H1 h d ds n1 ∧ AccG (· = h) K H' q (ns.map PyData.int) H1 ∧ isRow (ls.take j) (tupI ns) = true) ⟨n, [], hh.new hq _, AccG.start hq, row_nil⟩ (fun j H1 _ ⟨_, _, _, b, _⟩ => b.go.seqT (a.go.seqT hla)) ?_ ?_
    · rintro j y H1 hj ⟨n1, ns, hh1, b, rw1⟩
      obtain ⟨m, hm, rfl⟩ := item_of hj
      have mok := lok m (List.mem_of_getElem? hm)
      refine ⟨rfl, ?_⟩
      refine ⟨_, rfl, _, rfl, h, d, ds, n1, m, rfl, hh1.1, hh1.2, by omega, by omega, fun z z0 zm => ?_⟩
      obtain ⟨acc, e, el, b2⟩ := (b.step nqh hh1.go).push (.int z)
      have nl : ns.length = (ls.take j).length := row_len rw1
      refine ⟨acc, e, lt_small ?_, n1 + 1, ns ++ [z], hh1.next.off nqh nqd _, ?_, ?_⟩
      · rw [el, List.length_map, nl, List.length_take]
        omega
      · rw [List.map_append]
        exact b2
      · rw [take_more hm, row_snoc nl, rw1, Bool.true_and]
        show (decide ((0 : Int) ≤ z) && decide (z ≤ m - 1)) = true
        rw [decide_eq_true z0, decide_eq_true (by omega)]
        rfl
    rintro H1 ⟨n1, ns, hh1, b, rw1⟩
    rw [List.length_map, List.take_of_length_le (Nat.le_refl _)] at rw1
    obtain ⟨acc, eacc, dacc⟩ := b.ex
    have ea : acc = ns.map V.int := ints_of dacc
    rw [ea] at eacc
    refine ⟨q, _, rfl, .inl ⟨SqL.of eacc, fun t ht => ?_⟩⟩
    have st := same_new ht (.tup (ns.map V.int))
    have hh2 := hh1.same st
    have a2 := a.step nph (b.go.trans (Same.go st))
    have row : Dt K (upd H1 t (.tup (ns.map V.int))) (.ref t) (tupI ns) := .tup (SqT.of upd_same) (DtAll.ints ns)
    refine ⟨_, rfl, h, d, ds, n1, 4, rfl, hh2.1, hh2.2, by omega, by omega, fun z z0 z4 => ⟨_, _, rfl, rfl, _, rfl, ?_⟩⟩
    have hh3 := hh2.next
    have a3 := a2.step nph hh2.go
    have row3 := row.stay hh2.tups
    -- the row goes to the rows
    refine ite2 (fun _ => ?_) (fun _ => ?_)
    · refine ⟨_, rfl, la, rfl, ⟨_, a3.go.seqT hla⟩, fun q2 hq2 => ?_⟩
      refine itt_walk (K := K) (a := la) (xs := ls.map V.int) (fun j H4 => AccG (· = h) K _ q2 (((ls.take j).map fun m => m - 1).map PyData.int) H4 ∧ Same _ H4) ⟨AccG.start hq2, same_new hq2 _⟩ (fun j H4 _ z => z.1.go.seqT (a3.go.seqT hla)) ?_ ?_
      · rintro j y H4 hj ⟨b4, s4⟩
        obtain ⟨m, hm, rfl⟩ := item_of hj
        refine ⟨rfl, ?_⟩
        refine ⟨_, rfl, _, _, rfl, rfl, ?_⟩
        obtain ⟨acc, e, el, b5⟩ := b4.push (.int (m - 1))
        refine ⟨acc, e, lt_small ?_, ?_, same_own s4 hq2 _⟩
        · rw [el, List.length_map, List.length_map, List.length_take]
          omega
        · rw [take_more hm, List.map_append, List.map_append]
          exact b5
      rintro H4 ⟨b4, s4⟩
      rw [List.length_map, List.take_of_length_le (Nat.le_refl _)] at b4
      obtain ⟨acc4, eacc4, dacc4⟩ := b4.ex
      have ea4 : acc4 = (ls.map fun m => m - 1).map V.int := ints_of dacc4
      rw [ea4] at eacc4
      refine ⟨q2, _, rfl, .inl ⟨SqL.of eacc4, fun t4 ht4 => ?_⟩⟩
      have st4 := same_new ht4 (.tup ((ls.map fun m => m - 1).map V.int))
      have hh4 := hh3.same (s4.trans st4)
      have a4 := a3.step nph (Same.go (s4.trans st4))
      obtain ⟨rw4, erw⟩ : ∃ x, x = ls.map fun m => m - 1 := ⟨_, rfl⟩
      have row4 : Dt K (upd H4 t4 (.tup ((ls.map fun m => m - 1).map V.int))) (.ref t4) (tupI rw4) := by
        rw [erw]
        exact .tup (SqT.of upd_same) (DtAll.ints _)
      have row_ok : isRow ls (tupI rw4) = true := by
        rw [erw]
        exact row_top ls lok
      obtain ⟨racc, er, dr⟩ := a4.ex
      refine ⟨_, rfl, _, rfl, tupI rw4, rows.map tupI, row4.dp, .lst (SqL.of er) dr.dp, shaped_i _, shaped_l _, _, rfl, ?_⟩
      rw [any_i]
      by_cases hm : rw4 ∈ rows
      · rw [decide_eq_true hm]
        refine iteF ?_
        exact ⟨_, _, _, rows, rfl, hh4, a4, by omega, nd, ok⟩
      · rw [decide_eq_false hm]
        refine iteT ?_
        obtain ⟨acc2, e2, el2, a5⟩ := a4.push row4
        refine ⟨_, rfl, .inl ⟨rfl, _, SqL.of e2⟩, _, rfl, p, _, _, rfl, rfl, e2, lt_small ?_, ?_⟩
        · rw [el2, List.length_map]
          omega
        · refine ⟨_, _, _, rows ++ [rw4], rfl, hh4.off nph npd _, ?_, by rw [List.length_append, List.length_singleton]; omega, ?_, fun r hr => ?_⟩
          · rw [List.map_append]
            exact a5
          · rw [List.nodup_append]
            exact ⟨nd, by simp, fun x hx y hy => by rw [List.mem_singleton.mp hy]; exact fun e => hm (e ▸ hx)⟩
          · rcases List.mem_append.mp hr with hr | hr
            · exact ok r hr
            · rw [List.mem_singleton.mp hr]
              exact row_ok
    · have hh4 := hh3
      have a4 := a3
      obtain ⟨rw4, erw⟩ : ∃ x, x = ns := ⟨_, rfl⟩
      have row4 := row3
      have e4 : tupI ns = tupI rw4 := by rw [erw]
      rw [e4] at row4
      have row_ok : isRow ls (tupI rw4) = true := by
        rw [erw]
        exact rw1
      obtain ⟨racc, er, dr⟩ := a4.ex
      refine ⟨_, rfl, _, rfl, tupI rw4, rows.map tupI, row4.dp, .lst (SqL.of er) dr.dp, shaped_i _, shaped_l _, _, rfl, ?_⟩
      rw [any_i]
      by_cases hm : rw4 ∈ rows
      · rw [decide_eq_true hm]
        refine iteF ?_
        exact ⟨_, _, _, rows, rfl, hh4, a4, by omega, nd, ok⟩
      · rw [decide_eq_false hm]
        refine iteT ?_
        obtain ⟨acc2, e2, el2, a5⟩ := a4.push row4
        refine ⟨_, rfl, .inl ⟨rfl, _, SqL.of e2⟩, _, rfl, p, _, _, rfl, rfl, e2, lt_small ?_, ?_⟩
        · rw [el2, List.length_map]
          omega
        · refine ⟨_, _, _, rows ++ [rw4], rfl, hh4.off nph npd _, ?_, by rw [List.length_append, List.length_singleton]; omega, ?_, fun r hr => ?_⟩
          · rw [List.map_append]
            exact a5
          · rw [List.nodup_append]
            exact ⟨nd, by simp, fun x hx y hy => by rw [List.mem_singleton.mp hy]; exact fun e => hm (e ▸ hx)⟩
          · rcases List.mem_append.mp hr with hr | hr
            · exact ok r hr
            · rw [List.mem_singleton.mp hr]
              exact row_ok
  · rintro σ H' ⟨kv, rv, n, rows, rfl, hh, a, len, nd, ok⟩
    obtain ⟨racc, er, dr⟩ := a.ex
    have few : rows.length ≤ 5 := by omega
    refine ⟨_, rfl, p, racc, rows, rfl, SqL.of er, dr, by omega, fun r hr e => ?_, fun ys p2 hp2 dy => ?_⟩
    · have := row_len (ok r hr)
      rw [e] at this
      simp only [List.length_nil] at this
      omega
    have s2 := same_new hp2 (.lst ys)
    refine ⟨p2, _, rfl, .inl ⟨SqL.of upd_same, fun t ht => ?_⟩⟩
    have s3 := s2.trans (same_new ht (.tup ys))
    exact k _ _ n _ (a.go.trans (Same.go s3)) (hh.same s3) (.tup (SqT.of upd_same) (dy.stay s3.tups)) (good_sort few nd ok)
end
section
variable {P : Program} {w : World} {K : PySem.W.Frag} {mg : Str → Option Value} {base : Heap}
def LabOk (D : Int) (ls : List Int) : Prop := ((ls.length : Nat) : Int) = D ∧ (∀ m ∈ ls, 1 ≤ m ∧ m ≤ 60) ∧ prodD (ls.map PyData.int) ≤ 4000
def spLLabels (K : PySem.W.Frag) : Sp := fun vs H Q _ => ∃ (h d : Addr) (ds : List Int) (n : Nat) (D : Int), vs = [.ref h, .int D] ∧ Hand H h d ds n ∧ 2 ≤ D ∧ D ≤ 4 ∧
  ∀ (la : Addr) (H' : Hp) (n' : Nat) (ls : List Int), Go (· = h) H H' → Hand H' h d ds n' → SqT K H' la (ls.map V.int) → LabOk D ls → Q (.ref la) H'
set_option maxHeartbeats 1000000 in
theorem ok_llabels {f : Addr} {fd : FuncData} (B : Blt mg) (g_law_take : Has P w K mg base CX0 1 "_law_take" ["hand", "many"] (spTake K)) (F : Fun K "_law_labels" "_law_labels" s_law_labels f fd) : FnOk P w K mg base CX0 2 f fd ["hand", "colours"] (spLLabels K) := by
  have sc : FnScope ["hand", "colours", "shape", "wide", "c"] ["hand", "colours"] (defScope s_law_labels) := ⟨rfl, rfl, rfl, by decide +kernel, rfl, by decide +kernel, by decide +kernel⟩
  refine F.ok sc (fun vs H Q E h => ?_) (fun cdv A outer s H vs Q E hr h => ?_)
  · obtain ⟨_, _, _, _, _, rfl, _⟩ := h
    rfl
  obtain ⟨h, d, ds, n0, D, rfl, hh, D2, D4, k⟩ := h
  refine ⟨_, (pss_cons (ps_set (i := 2) sc.nd rfl (Or.inl rfl) (pc g_law_take hr (pa_cons (pv 0) (pa_cons pe_int pa_nil))))
    (pss_cons (ps_if (pt_cmpR op_eqi (pv 2) pe_int (nomark _))
      (pss_cons (ps_set (i := 3) sc.nd rfl (Or.inl rfl) (pe_lst (pa_cons (pe_lst (pa_cons (pe_tup (pa_cons pe_int (pa_cons pe_int pa_nil))) (pa_cons (pe_tup (pa_cons pe_int (pa_cons pe_int pa_nil))) (pa_cons (pe_tup (pa_cons pe_int (pa_cons pe_int pa_nil))) pa_nil)))) (pa_cons (pe_lst (pa_cons (pe_tup (pa_cons pe_int (pa_cons pe_int (pa_cons pe_int pa_nil)))) (pa_cons (pe_tup (pa_cons pe_int (pa_cons pe_int (pa_cons pe_int pa_nil)))) (pa_cons (pe_tup (pa_cons pe_int (pa_cons pe_int (pa_cons pe_int pa_nil)))) pa_nil)))) pa_nil))))
      (pss_cons (ps_expr (pe_bm PySem.F.plainAttrs_list PySem.F.slot_list_append PySem.F.type_list_append mt_append (pv 3) (pa_cons (pe_lst (pa_cons (pe_tup (pa_cons pe_int (pa_cons pe_int (pa_cons pe_int (pa_cons pe_int pa_nil))))) (pa_cons (pe_tup (pa_cons pe_int (pa_cons pe_int (pa_cons pe_int (pa_cons pe_int pa_nil))))) (pa_cons (pe_tup (pa_cons pe_int (pa_cons pe_int (pa_cons pe_int (pa_cons pe_int pa_nil))))) pa_nil)))) pa_nil)))
      (pss_one (ps_ret (pe_ix ix_list (pe_ix ix_list (pv 3) (pe_op op_sub (pv 1) pe_int) (fun _ _ => rfl)) (pc g_law_take hr (pa_cons (pv 0) (pa_cons pe_int pa_nil))) (fun _ _ => rfl))))))
      pss_nil)
    (pss_one (ps_ret (pe_callTy call_tuple_of (by rfl) B.tuple (by decide +kernel) (pa_cons (pe_lc (own := [("c", 4)]) (g := gName 4) (tt := tYes) rfl sc.nd (pi_range1 (by rfl) B.range (pa_cons (pv 1) pa_nil)) (blkOk_by (N := ["hand", "colours", "shape", "wide", "c"]) (sc := defScope s_law_labels) (by decide +kernel)) (fun _ _ _ _ _ => pg_name (i := 4) sc.nd rfl (Or.inl rfl)) (fun _ _ _ _ _ => pts_nil) (fun _ _ _ _ _ => (pe_op op_add pe_int (pc g_law_take hr (pa_cons (pv 0) (pa_cons pe_int pa_nil)))))) pa_nil)))))), ?_⟩
  refine ⟨_, rfl, h, d, ds, n0, 5, rfl, hh.1, hh.2, by omega, by omega, fun sh sh0 sh1 => ?_⟩
  have hh1 := hh.next
  refine ⟨_, rfl, _, _, rfl, rfl, _, rfl, ?_⟩
  refine ite2 (fun _ => ?_) (fun _ => ?_)
  · refine ⟨(by show 2 ≤ sizeLine; decide), fun t1 h1 => ⟨(by show 2 ≤ sizeLine; decide), fun t2 h2 => ⟨(by show 2 ≤ sizeLine; decide), fun t3 h3 => ⟨(by show 3 ≤ sizeLine; decide), fun l1 hl1 => ⟨(by show 3 ≤ sizeLine; decide), fun t4 h4 => ⟨(by show 3 ≤ sizeLine; decide), fun t5 h5 => ⟨(by show 3 ≤ sizeLine; decide), fun t6 h6 => ⟨(by show 3 ≤ sizeLine; decide), fun l2 hl2 => ⟨(by show 2 ≤ sizeLine; decide), fun wd hwd => ?_⟩⟩⟩⟩⟩⟩⟩⟩⟩
    have a1 := same_new h1 (.tup [.int 60, .int 60])
    have a2 := same_new h2 (.tup [.int 1, .int 60])
    have a3 := same_new h3 (.tup [.int 11, .int 12])
    have a4 := same_new hl1 (.lst [.ref t1, .ref t2, .ref t3])
    have a5 := same_new h4 (.tup [.int 20, .int 20, .int 10])
    have a6 := same_new h5 (.tup [.int 16, .int 16, .int 15])
    have a7 := same_new h6 (.tup [.int 60, .int 60, .int 1])
    have a8 := same_new hl2 (.lst [.ref t4, .ref t5, .ref t6])
    have a9 := same_new hwd (.lst [.ref l1, .ref l2])
    refine ⟨_, rfl, .inl ⟨rfl, _, SqL.of upd_same⟩, (by show 4 ≤ sizeLine; decide), fun t7 h7 => ⟨(by show 4 ≤ sizeLine; decide), fun t8 h8 => ⟨(by show 4 ≤ sizeLine; decide), fun t9 h9 => ⟨(by show 3 ≤ sizeLine; decide), fun l3 hl3 => ?_⟩⟩⟩⟩
    have b1 := same_new h7 (.tup [.int 10, .int 10, .int 10, .int 4])
    have b2 := same_new h8 (.tup [.int 8, .int 8, .int 8, .int 7])
    have b3 := same_new h9 (.tup [.int 1, .int 60, .int 1, .int 60])
    have b4 := same_new hl3 (.lst [.ref t7, .ref t8, .ref t9])
    have bb := ((b1.trans b2).trans b3).trans b4
    have ew := bb _ _ (upd_same (a := wd) (o := .lst [.ref l1, .ref l2]))
    refine ⟨wd, _, _, rfl, rfl, ew, (by show 2 < sizeLine; decide), ?_⟩
    have gw := Go.put (M := (· = wd)) (ys := [.ref l1, .ref l2] ++ [.ref l3]) rfl ew
    -- the lists
    have c8 := a9.trans bb
    have c4 := (((a5.trans a6).trans a7).trans a8).trans c8
    have n1 : ¬ l1 = wd := ne_of_none ((((a5.trans a6).trans a7).trans a8) _ _ (upd_same (a := l1) (o := .lst [.ref t1, .ref t2, .ref t3]))) hwd
    have n2 : ¬ l2 = wd := ne_of_none (upd_same (a := l2) (o := .lst [.ref t4, .ref t5, .ref t6])) hwd
    have n3 : ¬ l3 = wd := (ne_of_none (((b1.trans b2).trans b3) _ _ (upd_same (a := wd) (o := .lst [.ref l1, .ref l2]))) hl3).symm
    have e1 := gw.out _ _ n1 (c4 _ _ (upd_same (a := l1) (o := .lst [.ref t1, .ref t2, .ref t3])))
    have e2 := gw.out _ _ n2 (c8 _ _ (upd_same (a := l2) (o := .lst [.ref t4, .ref t5, .ref t6])))
    have e3 := gw.out _ _ n3 (upd_same (a := l3) (o := .lst [.ref t7, .ref t8, .ref t9]))
    have f1 := gw.seqT (K := K) (((a2.trans a3).trans (a4.trans c4)).seqT (SqT.of (upd_same (a := t1) (o := .tup [.int 60, .int 60]))))
    have f2 := gw.seqT (K := K) ((a3.trans (a4.trans c4)).seqT (SqT.of (upd_same (a := t2) (o := .tup [.int 1, .int 60]))))
    have f3 := gw.seqT (K := K) ((a4.trans c4).seqT (SqT.of (upd_same (a := t3) (o := .tup [.int 11, .int 12]))))
    have f4 := gw.seqT (K := K) (((a6.trans a7).trans (a8.trans c8)).seqT (SqT.of (upd_same (a := t4) (o := .tup [.int 20, .int 20, .int 10]))))
    have f5 := gw.seqT (K := K) ((a7.trans (a8.trans c8)).seqT (SqT.of (upd_same (a := t5) (o := .tup [.int 16, .int 16, .int 15]))))
    have f6 := gw.seqT (K := K) ((a8.trans c8).seqT (SqT.of (upd_same (a := t6) (o := .tup [.int 60, .int 60, .int 1]))))
    have f7 := gw.seqT (K := K) (((b2.trans b3).trans b4).seqT (SqT.of (upd_same (a := t7) (o := .tup [.int 10, .int 10, .int 10, .int 4]))))
    have f8 := gw.seqT (K := K) ((b3.trans b4).seqT (SqT.of (upd_same (a := t8) (o := .tup [.int 8, .int 8, .int 8, .int 7]))))
    have f9 := gw.seqT (K := K) (b4.seqT (SqT.of (upd_same (a := t9) (o := .tup [.int 1, .int 60, .int 1, .int 60]))))
    have a14 := ((a1.trans a2).trans a3).trans a4
    have hw0 := hh1.same (a14.trans (((a5.trans a6).trans a7).trans a8))
    have hw1 := hw0.same (a9.trans bb)
    have nwh := hand_out hw0 hwd
    have hh2 := hw1.off nwh.1 nwh.2 (.lst ([.ref l1, .ref l2] ++ [.ref l3]))
    have g2 : Go (· = h) H _ := hh.go.trans ((Same.go (a14.trans (((a5.trans a6).trans a7).trans a8))).trans ((Same.go (a9.trans bb)).own hwd (.lst ([.ref l1, .ref l2] ++ [.ref l3]))))
    have ok9 : ∀ {ls : List Int} {t : Addr}, SqT K _ t (ls.map V.int) → LabOk D ls → Q (.ref t) _ := fun {ls t} st lo => k t _ _ ls (g2.trans hh2.go) hh2.next (hh2.tups.seq st) lo
    have goL : ∀ {l : Addr} {xs : List V}, (upd _ wd _) l = some (.lst xs) → ¬ l = h → SqL K _ l xs := fun {l xs} e n => SqL.of (hh2.go.out _ _ n e)
    have m1 : ¬ l1 = h := ne_of e1 hh2.1 (by simp)
    have m2 : ¬ l2 = h := ne_of e2 hh2.1 (by simp)
    have m3 : ¬ l3 = h := ne_of e3 hh2.1 (by simp)
    rcases (show D = 2 ∨ D = 3 ∨ D = 4 by omega) with rfl | rfl | rfl
    · refine ⟨_, rfl, _, rfl, _, _, rfl, rfl, wd, _, _, .ref l1, rfl, rfl, SqL.of upd_same, at_of (j := 0) rfl rfl, _, rfl, h, d, ds, _, 3, rfl, hh2.1, hh2.2, by omega, by omega, fun q q0 q3 => ?_⟩
      rcases (show q = 0 ∨ q = 1 ∨ q = 2 by omega) with rfl | rfl | rfl
      · exact ⟨l1, _, _, _, rfl, rfl, goL e1 m1, at_of (j := 0) rfl rfl, ok9 (ls := [60, 60]) f1 ⟨rfl, by decide, by decide⟩⟩
      · exact ⟨l1, _, _, _, rfl, rfl, goL e1 m1, at_of (j := 1) rfl rfl, ok9 (ls := [1, 60]) f2 ⟨rfl, by decide, by decide⟩⟩
      · exact ⟨l1, _, _, _, rfl, rfl, goL e1 m1, at_of (j := 2) rfl rfl, ok9 (ls := [11, 12]) f3 ⟨rfl, by decide, by decide⟩⟩
    · refine ⟨_, rfl, _, rfl, _, _, rfl, rfl, wd, _, _, .ref l2, rfl, rfl, SqL.of upd_same, at_of (j := 1) rfl rfl, _, rfl, h, d, ds, _, 3, rfl, hh2.1, hh2.2, by omega, by omega, fun q q0 q3 => ?_⟩
      rcases (show q = 0 ∨ q = 1 ∨ q = 2 by omega) with rfl | rfl | rfl
      · exact ⟨l2, _, _, _, rfl, rfl, goL e2 m2, at_of (j := 0) rfl rfl, ok9 (ls := [20, 20, 10]) f4 ⟨rfl, by decide, by decide⟩⟩
      · exact ⟨l2, _, _, _, rfl, rfl, goL e2 m2, at_of (j := 1) rfl rfl, ok9 (ls := [16, 16, 15]) f5 ⟨rfl, by decide, by decide⟩⟩
      · exact ⟨l2, _, _, _, rfl, rfl, goL e2 m2, at_of (j := 2) rfl rfl, ok9 (ls := [60, 60, 1]) f6 ⟨rfl, by decide, by decide⟩⟩
    · refine ⟨_, rfl, _, rfl, _, _, rfl, rfl, wd, _, _, .ref l3, rfl, rfl, SqL.of upd_same, at_of (j := 2) rfl rfl, _, rfl, h, d, ds, _, 3, rfl, hh2.1, hh2.2, by omega, by omega, fun q q0 q3 => ?_⟩
      rcases (show q = 0 ∨ q = 1 ∨ q = 2 by omega) with rfl | rfl | rfl
      · exact ⟨l3, _, _, _, rfl, rfl, goL e3 m3, at_of (j := 0) rfl rfl, ok9 (ls := [10, 10, 10, 4]) f7 ⟨rfl, by decide, by decide⟩⟩
      · exact ⟨l3, _, _, _, rfl, rfl, goL e3 m3, at_of (j := 1) rfl rfl, ok9 (ls := [8, 8, 8, 7]) f8 ⟨rfl, by decide, by decide⟩⟩
      · exact ⟨l3, _, _, _, rfl, rfl, goL e3 m3, at_of (j := 2) rfl rfl, ok9 (ls := [1, 60, 1, 60]) f9 ⟨rfl, by decide, by decide⟩⟩
  · refine ⟨_, rfl, D, rfl, by omega, by omega, fun p hp => ?_⟩
    obtain ⟨nph, npd⟩ := hand_out hh1 hp
    refine itr_walk (lo := 0) (n := D.toNat) (fun i H1 => ∃ (n1 : Nat) (ns : List Int), Hand H1 h d ds n1 ∧ AccG (· = h) K _ p (ns.map PyData.int) H1 ∧ ns.length = i ∧ (∀ m ∈ ns, 1 ≤ m ∧ m ≤ 60) ∧ 1 ≤ prodD (ns.map PyData.int) ∧ prodD (ns.map PyData.int) ≤ 3 ^ i) ⟨_, [], hh1.new hp _, AccG.start hp, rfl, fun m hm => absurd hm List.not_mem_nil, by decide, by decide⟩ ?_ ?_
    · rintro i H1 hi ⟨n1, ns, hh2, b, len, ok, p1, p2⟩
      refine ⟨rfl, ?_⟩
      refine ⟨_, rfl, h, d, ds, n1, 3, rfl, hh2.1, hh2.2, by omega, by omega, fun z z0 z3 => ⟨_, _, rfl, rfl, ?_⟩⟩
      obtain ⟨acc, e, el, b2⟩ := (b.step nph hh2.go).push (.int (1 + z))
      refine ⟨acc, e, lt_small ?_, n1 + 1, ns ++ [1 + z], hh2.next.off nph npd _, ?_, ?_, fun m hm => ?_, ?_, ?_⟩
      · rw [el, List.length_map]
        omega
      · rw [List.map_append]
        exact b2
      · rw [List.length_append, len]
        rfl
      · rcases List.mem_append.mp hm with hm | hm
        · exact ok m hm
        · rw [List.mem_singleton.mp hm]
          omega
      · rw [List.map_append]
        show 1 ≤ prodD (ns.map PyData.int ++ [.int (1 + z)])
        rw [prod_more]
        show 1 ≤ prodD (ns.map PyData.int) * (1 + z)
        have := Int.mul_le_mul p1 (show (1 : Int) ≤ 1 + z by omega) (by decide) (by omega)
        omega
      · rw [List.map_append]
        show prodD (ns.map PyData.int ++ [.int (1 + z)]) ≤ 3 ^ (i + 1)
        rw [prod_more, Int.pow_succ]
        exact Int.mul_le_mul p2 (show 1 + z ≤ (3 : Int) by omega) (show (0 : Int) ≤ 1 + z by omega) (Int.le_of_lt (Int.pow_pos (by decide)))
    · rintro H1 ⟨n1, ns, hh2, b, len, ok, p1, p2⟩
      obtain ⟨acc, eacc, dacc⟩ := b.ex
      have ea : acc = ns.map V.int := ints_of dacc
      rw [ea] at eacc
      refine ⟨p, _, rfl, .inl ⟨SqL.of eacc, fun t ht => ?_⟩⟩
      have st := same_new ht (.tup (ns.map V.int))
      have p4 : (3 : Int) ^ D.toNat ≤ 4000 := by
        have : ∀ n, n < 5 → (3 : Int) ^ n ≤ 4000 := by decide
        exact this _ (by omega)
      exact k t _ n1 ns (hh.go.trans (b.go.trans (Same.go st))) (hh2.same st) (SqT.of upd_same) ⟨by omega, ok, Int.le_trans p2 p4⟩

def sideD (W : List (List (List Int))) : PyData := .tuple (W.map fun rows => .tuple (rows.map tupI))
def taskD (D : Int) (ls : List Int) (W B : List (List (List Int))) : PyData := .tuple [.str "task", .int D, tupI ls, sideD W, sideD B]
def GoodS (ls : List Int) (W : List (List (List Int))) : Prop := 1 ≤ W.length ∧ W.length ≤ 4 ∧ ∀ rows ∈ W, Good ls rows
def spLTask (K : PySem.W.Frag) : Sp := fun vs H Q _ => ∃ (h d : Addr) (ds : List Int) (n : Nat), vs = [.ref h] ∧ Hand H h d ds n ∧
  ∀ (a : Addr) (H' : Hp) (n' : Nat) (D : Int) (ls : List Int) (W B : List (List (List Int))), Go (· = h) H H' → Hand H' h d ds n' → 2 ≤ D → D ≤ 4 → LabOk D ls → GoodS ls W → GoodS ls B → Dt K H' (.ref a) (taskD D ls W B) → Q (.ref a) H'
theorem ok_ltask {f : Addr} {fd : FuncData} (B : Blt mg) (g_law_take : Has P w K mg base CX0 1 "_law_take" ["hand", "many"] (spTake K)) (g_law_labels : Has P w K mg base CX0 2 "_law_labels" ["hand", "colours"] (spLLabels K)) (g_law_rows : Has P w K mg base CX0 2 "_law_rows" ["hand", "labels"] (spLRows K))
    (F : Fun K "_law_task" "_law_task" s_law_task f fd) : FnOk P w K mg base CX0 3 f fd ["hand"] (spLTask K) := by
  have sc : FnScope ["hand", "colours", "labels", "white", "black", "x", "y"] ["hand"] (defScope s_law_task) := ⟨rfl, rfl, rfl, by decide +kernel, rfl, by decide +kernel, by decide +kernel⟩
  refine F.ok sc (fun vs H Q E h => ?_) (fun cdv A outer s H vs Q E hr h => ?_)
  · obtain ⟨_, _, _, _, rfl, _⟩ := h
    rfl
  obtain ⟨h, d, ds, n0, rfl, hh, k⟩ := h
  refine ⟨_, (pss_cons (ps_set (i := 1) sc.nd rfl (Or.inl rfl) (pe_op op_add pe_int (pc g_law_take hr (pa_cons (pv 0) (pa_cons pe_int pa_nil)))))
    (pss_cons (ps_set (i := 2) sc.nd rfl (Or.inr rfl) (pc g_law_labels hr (pa_cons (pv 0) (pa_cons (pv 1) pa_nil))))
    (pss_cons (ps_set (i := 3) sc.nd rfl (Or.inl rfl) (pe_callTy call_tuple_of (by rfl) B.tuple (by decide +kernel) (pa_cons (pe_lc (own := [("x", 5)]) (g := gName 5) (tt := tYes) rfl sc.nd (pi_range1 (by rfl) B.range (pa_cons (pe_op op_add pe_int (pc g_law_take hr (pa_cons (pv 0) (pa_cons pe_int pa_nil)))) pa_nil)) (blkOk_by (N := ["hand", "colours", "labels", "white", "black", "x", "y"]) (sc := defScope s_law_task) (by decide +kernel)) (fun _ _ _ _ _ => pg_name (i := 5) sc.nd rfl (Or.inl rfl)) (fun _ _ _ _ _ => pts_nil) (fun _ _ _ _ _ => (pc g_law_rows hr (pa_cons (pv 0) (pa_cons (pv 2) pa_nil))))) pa_nil)))
    (pss_cons (ps_set (i := 4) sc.nd rfl (Or.inl rfl) (pe_callTy call_tuple_of (by rfl) B.tuple (by decide +kernel) (pa_cons (pe_lc (own := [("y", 6)]) (g := gName 6) (tt := tYes) rfl sc.nd (pi_range1 (by rfl) B.range (pa_cons (pe_op op_add pe_int (pc g_law_take hr (pa_cons (pv 0) (pa_cons pe_int pa_nil)))) pa_nil)) (blkOk_by (N := ["hand", "colours", "labels", "white", "black", "x", "y"]) (sc := defScope s_law_task) (by decide +kernel)) (fun _ _ _ _ _ => pg_name (i := 6) sc.nd rfl (Or.inl rfl)) (fun _ _ _ _ _ => pts_nil) (fun _ _ _ _ _ => (pc g_law_rows hr (pa_cons (pv 0) (pa_cons (pv 2) pa_nil))))) pa_nil)))
    (pss_one (ps_ret (pe_tup (pa_cons pe_str (pa_cons (pv 1) (pa_cons (pv 2) (pa_cons (pv 3) (pa_cons (pv 4) pa_nil)))))))))))), ?_⟩
  refine ⟨_, rfl, h, d, ds, n0, 3, rfl, hh.1, hh.2, by omega, by omega, fun c c0 c3 => ⟨_, _, rfl, rfl, ?_⟩⟩
  refine ⟨_, rfl, _, rfl, h, d, ds, _, _, rfl, hh.next, by omega, by omega, fun la H1 n1 ls g1 hh1 hla lok => ?_⟩
  have l24 : 2 ≤ ls.length ∧ ls.length ≤ 4 := by have := lok.1; omega
  -- one side
  refine ⟨_, rfl, h, d, ds, n1, 4, rfl, hh1.1, hh1.2, by omega, by omega, fun x x0 x4 => ⟨_, _, rfl, rfl, 1 + x, rfl, by omega, by omega, fun p hp => ?_⟩⟩
  have hh2 := hh1.next
  obtain ⟨nph, npd⟩ := hand_out hh2 hp
  refine itr_walk (lo := 0) (n := (1 + x).toNat) (fun i H3 => ∃ (n3 : Nat) (W : List (List (List Int))), Hand H3 h d ds n3 ∧ AccG (· = h) K _ p (W.map fun rows => .tuple (rows.map tupI)) H3 ∧ W.length = i ∧ ∀ rows ∈ W, Good ls rows) ⟨_, [], hh2.new hp _, AccG.start hp, rfl, fun m hm => absurd hm List.not_mem_nil⟩ ?_ ?_
  · rintro i H3 hi ⟨n3, W, hh3, b, len, ok⟩
    refine ⟨rfl, ?_⟩
    refine ⟨_, rfl, _, rfl, h, d, ds, n3, la, ls, rfl, hh3, b.go.seqT (hh1.go.seqT hla), by omega, l24.2, lok.2.1, fun v H4 n4 rows g4 hh4 dv gd => ?_⟩
    obtain ⟨acc, e, el, b2⟩ := (b.step nph g4).push dv
    refine ⟨acc, e, lt_small ?_, n4, W ++ [rows], hh4.off nph npd _, ?_, ?_, fun r hr => ?_⟩
    · rw [el, List.length_map]
      omega
    · rw [List.map_append]
      exact b2
    · rw [List.length_append, len]
      rfl
    · rcases List.mem_append.mp hr with hr | hr
      · exact ok r hr
      · rw [List.mem_singleton.mp hr]
        exact gd
  rintro H3 ⟨n3, W, hh3, b, len, okW⟩
  obtain ⟨acc, eacc, dacc⟩ := b.ex
  refine ⟨p, _, rfl, .inl ⟨SqL.of eacc, fun tw htw => ?_⟩⟩
  have sw := same_new htw (.tup acc)
  have hh4 := hh3.same sw
  have gW : GoodS ls W := ⟨by omega, by omega, okW⟩
  have g4 := (g1.trans hh1.go).trans (b.go.trans (Same.go sw))
  have dW : Dt K (upd H3 tw (.tup acc)) (.ref tw) (sideD W) := .tup (SqT.of upd_same) (dacc.stay sw.tups)
  have hla4 := (hh1.go.trans (b.go.trans (Same.go sw))).seqT hla
  -- the other
  refine ⟨_, rfl, h, d, ds, n3, 4, rfl, hh4.1, hh4.2, by omega, by omega, fun y y0 y4 => ⟨_, _, rfl, rfl, 1 + y, rfl, by omega, by omega, fun p2 hp2 => ?_⟩⟩
  have hh5 := hh4.next
  obtain ⟨nph2, npd2⟩ := hand_out hh5 hp2
  refine itr_walk (lo := 0) (n := (1 + y).toNat) (fun i H6 => ∃ (n6 : Nat) (W : List (List (List Int))), Hand H6 h d ds n6 ∧ AccG (· = h) K _ p2 (W.map fun rows => .tuple (rows.map tupI)) H6 ∧ W.length = i ∧ ∀ rows ∈ W, Good ls rows) ⟨_, [], hh5.new hp2 _, AccG.start hp2, rfl, fun m hm => absurd hm List.not_mem_nil⟩ ?_ ?_
  · rintro i H6 hi ⟨n6, W2, hh6, b6, len6, ok6⟩
    refine ⟨rfl, ?_⟩
    refine ⟨_, rfl, _, rfl, h, d, ds, n6, la, ls, rfl, hh6, b6.go.seqT (hh4.go.seqT hla4), by omega, l24.2, lok.2.1, fun v H7 n7 rows g7 hh7 dv gd => ?_⟩
    obtain ⟨acc2, e2, el2, b7⟩ := (b6.step nph2 g7).push dv
    refine ⟨acc2, e2, lt_small ?_, n7, W2 ++ [rows], hh7.off nph2 npd2 _, ?_, ?_, fun r hr => ?_⟩
    · rw [el2, List.length_map]
      omega
    · rw [List.map_append]
      exact b7
    · rw [List.length_append, len6]
      rfl
    · rcases List.mem_append.mp hr with hr | hr
      · exact ok6 r hr
      · rw [List.mem_singleton.mp hr]
        exact gd
  rintro H6 ⟨n6, W2, hh6, b6, len6, ok6⟩
  obtain ⟨acc2, eacc2, dacc2⟩ := b6.ex
  refine ⟨p2, _, rfl, .inl ⟨SqL.of eacc2, fun tb htb => ?_⟩⟩
  have sb := same_new htb (.tup acc2)
  have hh7 := hh6.same sb
  have dB : Dt K (upd H6 tb (.tup acc2)) (.ref tb) (sideD W2) := .tup (SqT.of upd_same) (dacc2.stay sb.tups)
  have g67 := hh4.go.trans (b6.go.trans (Same.go sb))
  refine ⟨_, rfl, _, rfl, _, rfl, _, rfl, (by show 5 ≤ sizeLine; decide), fun a ha => ?_⟩
  have sa := same_new ha (.tup [.str "task", .int (2 + c), .ref la, .ref tw, .ref tb])
  have gz := g67.trans (Same.go sa)
  exact k a _ n6 (2 + c) ls W W2 ((hh.go.trans g4).trans gz) (hh7.same sa) (by omega) (by omega) lok gW ⟨by omega, by omega, ok6⟩
    (.tup (SqT.of upd_same) (.cons (.str _) (.cons (.int _) (.cons (.tup (gz.seqT hla4) (DtAll.ints ls)) (.cons (dW.stay gz.tups) (.cons (dB.stay sa.tups) .nil))))))
end
section
variable {P : Program} {w : World} {K : PySem.W.Frag} {mg : Str → Option Value} {base : Heap}
def sideOf (s : PyData) (W B : List (List (List Int))) : Option (List (List (List Int))) := match s with
  | .str x => if x = "white" then some W else if x = "black" then some B else none
  | _ => none
def due (ls : List Int) (W B : List (List (List Int))) (s n r : PyData) : Bool := match sideOf s W B with
  | none => false
  | some S => isNum n 0 ((S.length : Int) - 1) && (isRow ls r && decide (intsD r ∈ S.getD (numD n).toNat []))
def isStr (x : Str) (d : PyData) : Bool := match d with
  | .str y => decide (y = x)
  | _ => false
theorem str_eqv (d : PyData) (x : Str) : PyData.eqv d (.str x) = isStr x d := word_eqv d x
theorem side_w {s : PyData} {W B : List (List (List Int))} (h : isStr "white" s = true) : sideOf s W B = some W := by
  cases s with
  | str y =>
    have h' : decide (y = "white") = true := h
    unfold sideOf
    simp only [if_pos (dec_t h')]
  | _ => cases h
theorem side_b {s : PyData} {W B : List (List (List Int))} (h : isStr "white" s = false) (h2 : isStr "black" s = true) : sideOf s W B = some B := by
  cases s with
  | str y =>
    have h' : decide (y = "white") = false := h
    have h2' : decide (y = "black") = true := h2
    unfold sideOf
    simp only [if_neg (of_decide_eq_false h'), if_pos (dec_t h2')]
  | _ => cases h2
theorem side_n {s : PyData} {W B : List (List (List Int))} (h : isStr "white" s = false) (h2 : isStr "black" s = false) : sideOf s W B = none := by
  cases s with
  | str y =>
    have h' : decide (y = "white") = false := h
    have h2' : decide (y = "black") = false := h2
    unfold sideOf
    simp only [if_neg (of_decide_eq_false h'), if_neg (of_decide_eq_false h2')]
  | _ => rfl
theorem lab_ok {D : Int} {ls : List Int} (D2 : 2 ≤ D) (D4 : D ≤ 4) (l : LabOk D ls) : areLabels (.int D) (tupI ls) = true := by
  obtain ⟨l1, l2, l3⟩ := l
  have hn : isNum (.int D) 2 4 = true := by
    show (decide (2 ≤ D) && decide (D ≤ 4)) = true
    rw [decide_eq_true D2, decide_eq_true D4]
    rfl
  have e := labels_tup (ms := ls.map PyData.int) hn
  show areLabels (.int D) (.tuple (ls.map PyData.int)) = true
  rw [e, decide_eq_true (by rw [List.length_map]; exact l1), decide_eq_true l3, Bool.true_and, Bool.and_true, List.all_eq_true]
  intro x hx
  obtain ⟨m, hm, rfl⟩ := List.mem_map.mp hx
  obtain ⟨a, b⟩ := l2 m hm
  show (decide (1 ≤ m) && decide (m ≤ 60)) = true
  rw [decide_eq_true a, decide_eq_true b]
  rfl
theorem side_ok {ls : List Int} {W : List (List (List Int))} (g : GoodS ls W) : areInputs ls (sideD W) = true := by
  obtain ⟨w1, w4, ok⟩ := g
  show (isNum (.int ((W.map fun rows => PyData.tuple (rows.map tupI)).length : Nat)) 1 4 && (W.map fun rows => PyData.tuple (rows.map tupI)).all (areRows ls)) = true
  rw [List.length_map]
  have hn : isNum (.int (W.length : Nat)) 1 4 = true := by
    show (decide ((1 : Int) ≤ (W.length : Nat)) && decide (((W.length : Nat) : Int) ≤ 4)) = true
    rw [decide_eq_true (by omega), decide_eq_true (by omega)]
    rfl
  rw [hn, Bool.true_and, List.all_eq_true]
  intro x hx
  obtain ⟨rows, hr, rfl⟩ := List.mem_map.mp hx
  exact good_rows (ok rows hr)
theorem task_ok {D : Int} {ls : List Int} {W B : List (List (List Int))} (D2 : 2 ≤ D) (D4 : D ≤ 4) (l : LabOk D ls) (gW : GoodS ls W) (gB : GoodS ls B) : isTask (taskD D ls W B) = true := by
  show (isWord (.str "task") && (areLabels (.int D) (tupI ls) && (areInputs (intsD (tupI ls)) (sideD W) && areInputs (intsD (tupI ls)) (sideD B)))) = true
  rw [intsD_t, lab_ok D2 D4 l, side_ok gW, side_ok gB]
  rfl
theorem task_word (D : Int) (ls : List Int) (W B : List (List (List Int))) : WordOk (taskD D ls W B) := fun w r e _ => by
  cases e
  decide +kernel
/-- what may be held against a text -/
def spAllowed (K : PySem.W.Frag) (C : Addr) : Sp := fun vs H Q E => ∃ (M : Addr → Prop) (x s n r : V) (d sd nd rd : PyData), vs = [x, s, n, r] ∧ Dn M K H x d ∧ Dn M K H s sd ∧ Dn M K H n nd ∧ Dn M K H r rd ∧ d.bulk ≤ 1000000 ∧ WordOk d ∧ SeqAt.shaped sd = true ∧
  ((isTask d = false ∧ ∀ H', Same H H' → E (.ref C) none H') ∨ (∃ D ls W B, d = taskD D ls W B ∧ isTask d = true ∧ ls.length ≤ 4 ∧ ∀ H', Same H H' → Q (.bl (due ls W B sd nd rd)) H'))
theorem at_side {M : Addr → Prop} {H : Hp} {xs : List V} {W : List (List (List Int))} {i : Nat} (h : DnAll M K H xs (W.map fun rows => PyData.tuple (rows.map tupI))) (hi : i < W.length) : ∃ v, xs[i]? = some v ∧ Dn M K H v (.tuple ((W.getD i []).map tupI)) := by
  obtain ⟨v, hv, hd⟩ := h.at (show (W.map fun rows => PyData.tuple (rows.map tupI))[i]? = some (.tuple ((W.getD i []).map tupI)) by simp [List.getD, hi])
  exact ⟨v, hv, hd⟩
theorem dn_dp_rows {M : Addr → Prop} {H : Hp} {v : V} {rs : List (List Int)} (h : Dn M K H v (.tuple (rs.map tupI))) : Dp K H v (.tuple (rs.map tupI)) :=
  Dn.dp _ (PyData.hasDict_of_canLay _ (by simp only [PyData.canLay0]; exact lay_t rs)) h
/-- the module's tuple of the two sides -/
def SidesT (K : PySem.W.Frag) (a : Addr) : Prop := ∃ (o : Obj) (its : Array Value) (n : Nat), K.lookup a = some o ∧ o.cls = .type "tuple" ∧ o.data = .seq its n ∧ its.size ≤ sizeLine ∧ Vals [V.str "white", V.str "black"] its.toList
theorem sides_dp {K : PySem.W.Frag} {H : Hp} {a : Addr} (h : SidesT K a) : Dp K H (.ref a) (.tuple [.str "white", .str "black"]) := .tup (.inr h) (.cons (.str _) (.cons (.str _) .nil))
theorem eqv_strS (d : PyData) (x : Str) : PyData.eqv (.str x) d = isStr x d := by
  cases d with
  | str y =>
    show decide (x = y) = decide (y = x)
    by_cases e : x = y
    · rw [decide_eq_true e, decide_eq_true e.symm]
    · rw [decide_eq_false e, decide_eq_false (fun z => e z.symm)]
  | _ => rfl
/-- x not in t -/
def rNotInTD (K : PySem.W.Frag) : R2 := fun x y H Q => ∃ d ds, Dp K H x d ∧ Dp K H y (.tuple ds) ∧ SeqAt.shaped d = true ∧ SeqAt.shaped (.list ds) = true ∧ Q (.bl (!ds.any fun z => PyData.eqv z d)) H
theorem op_notInTD {X : Cx} (hu : X.A.units + 65 < cLine) : OpR X (compareOp .NotIn) (rNotInTD X.K) := by
  intro pins s σ H x y v u Q J rx ry want
  obtain ⟨d, ds, hd, he, sd, se, q⟩ := want
  obtain ⟨as, r1⟩ := Dp.reads J d x v hd rx
  obtain ⟨bs, r2⟩ := Dp.reads J (.tuple ds) y u he ry
  exact SeqAt.notIn_tuple_reads r2 r1 (SeqAt.canLay_of_shaped se) (SeqAt.canLay_of_shaped sd) (room_in_shaped sd hu) ⟨.bl _, H, J, rfl, q⟩
def spRowsOf (K : PySem.W.Frag) : Sp := fun vs H Q _ => ∃ (M : Addr → Prop) (a : Addr) (v0 v1 v2 v3 v4 s : V) (sd : PyData), vs = [.ref a, s] ∧ SqT K H a [v0, v1, v2, v3, v4] ∧ Dn M K H s sd ∧ SeqAt.shaped sd = true ∧ Q (if isStr "white" sd = true then v3 else v4) H
theorem ok_rowsof {f : Addr} {fd : FuncData} (F : Fun K "rows_of" "rows_of" srows_of f fd) : FnOk P w K mg base CX0 1 f fd ["task", "side"] (spRowsOf K) := by
  have sc : FnScope ["task", "side"] ["task", "side"] (defScope srows_of) := ⟨rfl, rfl, rfl, by decide +kernel, rfl, by decide +kernel, by decide +kernel⟩
  refine F.ok sc (fun vs H Q E h => ?_) (fun cdv A outer s H vs Q E hr h => ?_)
  · obtain ⟨_, _, _, _, _, _, _, _, _, rfl, _⟩ := h
    rfl
  obtain ⟨M, a, v0, v1, v2, v3, v4, sv, sd, rfl, ha, hs, hsh, k⟩ := h
  refine ⟨_, (pss_one (ps_ret (pe_ifExp (pt_cmpR (op_eqD hr.units) (pv 1) pe_str (nomark _)) (pe_ix ix_tup (pv 0) pe_int (fun _ _ => rfl)) (pe_ix ix_tup (pv 0) pe_int (fun _ _ => rfl))))), ?_⟩
  refine ⟨_, rfl, sd, .str "white", shaped_dp hs hsh, .str "white", hsh, by decide +kernel, ?_⟩
  rw [str_eqv]
  cases hc : isStr "white" sd with
  | true =>
    rw [hc] at k
    refine ⟨_, rfl, ?_⟩
    refine iteT ?_
    exact ⟨_, rfl, a, _, _, _, rfl, rfl, ha, rfl, k⟩
  | false =>
    rw [hc] at k
    refine ⟨_, rfl, ?_⟩
    refine iteF ?_
    exact ⟨_, rfl, a, _, _, _, rfl, rfl, ha, rfl, k⟩
set_option maxHeartbeats 1000000 in
theorem ok_allowed {C aS : Addr} {f : Addr} {fd : FuncData} (B : Blt mg) (hSIDES : mg "SIDES" = some (.ref aS)) (zS : SidesT K aS) (gcheck_task : Has P w K mg base (L2.CX P w) 6 "check_task" ["task"] (spCheckT K C)) (gis_number : Has P w K mg base CX0 1 "is_number" ["value", "low", "high"] (spNumber K)) (gis_row : Has P w K mg base CX0 2 "is_row" ["row", "labels"] (spRow K))
    (grows_of : Has P w K mg base CX0 1 "rows_of" ["task", "side"] (spRowsOf K)) (F : Fun K "row_allowed" "row_allowed" srow_allowed f fd) : FnOk P w K mg base (L2.CX P w) 7 f fd ["task", "side", "number", "row"] (spAllowed K C) := by
  have sc : FnScope ["task", "side", "number", "row", "allowed"] ["task", "side", "number", "row"] (defScope srow_allowed) := ⟨rfl, rfl, rfl, by decide +kernel, rfl, by decide +kernel, by decide +kernel⟩
  refine F.okX sc (fun vs H Q E h => ?_) (fun cdv A outer s H vs Q E hr h => ?_)
  · obtain ⟨_, _, _, _, _, _, _, _, _, rfl, _⟩ := h
    rfl
  obtain ⟨M, x, sv, n, r, d, sd, nd, rd, rfl, hd, hs, hn, hrd, hb, hw, hsh, h⟩ := h
  refine ⟨_, (pss_cons (ps_expr (pcE gcheck_task hr (takes_of rfl rfl rfl rfl) (pa_cons (pv 0) pa_nil)))
    (pss_cons (ps_if (pt_cmpR (op_notInTD hr.units2) (pv 1) (pe_glob (v := V.ref _) rfl hSIDES rfl) (by with_unfolding_all rfl))
      (pss_one (ps_ret pe_bl))
      pss_nil)
    (pss_cons (ps_set (i := 4) sc.nd rfl (Or.inl rfl) (pc grows_of hr (pa_cons (pv 0) (pa_cons (pv 1) pa_nil))))
    (pss_cons (ps_if (pt_not (pt_val (pc gis_number hr (pa_cons (pv 2) (pa_cons pe_int (pa_cons (pe_op op_sub (pe_callB call_len_seq (by rfl) B.len (by decide +kernel) (pa_cons (pv 4) pa_nil)) pe_int) pa_nil))))))
      (pss_one (ps_ret pe_bl))
      pss_nil)
    (pss_one (ps_ret (pe_and (pc gis_row hr (pa_cons (pv 3) (pa_cons (pe_ix ix_tup (pv 0) pe_int (fun _ _ => rfl)) pa_nil))) (pe_one (pe_cmpR (op_inTD hr.units2) (pv 3) (pe_ix ix_tup (pv 4) (pv 2) (fun _ _ => rfl)) (by with_unfolding_all rfl)))))))))), ?_⟩
  rcases h with ⟨ht, kf⟩ | ⟨D, ls, W, Bl, rfl, ht, l4, k⟩
  · exact ⟨_, rfl, M, x, d, rfl, hd, hb, hw, (fun z => by rw [z] at ht; cases ht), fun _ => kf⟩
  refine ⟨_, rfl, M, x, _, rfl, hd, hb, hw, fun _ H1 s1 => ?_, fun z => by rw [z] at ht; cases ht⟩
  obtain ⟨a, xs, rfl, ha, hx⟩ := dn_tup hd
  cases hx with
  | @cons v0 _ _ _ h0 hx =>
  cases hx with
  | @cons v1 _ _ _ h1 hx =>
  cases hx with
  | @cons v2 _ _ _ h2 hx =>
  cases hx with
  | @cons v3 _ _ _ h3 hx =>
  cases hx with
  | @cons v4 _ _ _ h4 hx =>
  cases hx
  obtain ⟨la, lxs, rfl, hla, hlx⟩ := dn_tup h2
  rw [ints_vs hlx] at hla
  have dps := shaped_dp (hs.stay (Same.go s1)) hsh
  refine ⟨_, rfl, sd, [.str "white", .str "black"], dps, sides_dp zS, hsh, by decide +kernel, _, rfl, ?_⟩
  have eAny : ([PyData.str "white", PyData.str "black"].any fun z => PyData.eqv z sd) = (isStr "white" sd || isStr "black" sd) := by
    rw [List.any_cons, List.any_cons, List.any_nil, eqv_strS, eqv_strS, Bool.or_false]
  rw [eAny]
  cases hor : (isStr "white" sd || isStr "black" sd) with
  | false =>
    refine iteT ?_
    rw [Bool.or_eq_false_iff] at hor
    have q := k H1 s1
    unfold due at q
    rw [side_n hor.1 hor.2] at q
    exact q
  | true =>
  refine iteF ?_
  obtain ⟨v, S, hv, eS, ev⟩ : ∃ (v : V) (S : List (List (List Int))), Dn M K H v (sideD S) ∧ sideOf sd W Bl = some S ∧ (if isStr "white" sd = true then v3 else v4) = v := by
    cases hc : isStr "white" sd with
    | true => exact ⟨v3, W, h3, side_w hc, rfl⟩
    | false =>
      rw [hc, Bool.false_or] at hor
      exact ⟨v4, Bl, h4, side_b hc hor, rfl⟩
  obtain ⟨wa, wxs, rfl, hwa, hwx⟩ := dn_tup hv
  refine ⟨_, rfl, _, rfl, M, a, v0, v1, .ref la, v3, v4, sv, sd, rfl, s1.seqT ha, hs.stay (Same.go s1), hsh, ?_⟩
  rw [ev]
  refine ⟨_, rfl, _, rfl, wa, _, rfl, .inr (s1.seqT hwa), _, _, rfl, rfl, M, n, nd, 0, _, rfl, hn.stay (Same.go s1), _, rfl, ?_⟩
  have eL : ((wxs.length : Nat) : Int) = ((S.length : Nat) : Int) := by rw [hwx.len, List.length_map]
  rw [eL]
  have ed : due ls W Bl sd nd rd = (isNum nd 0 ((S.length : Int) - 1) && (isRow ls rd && decide (intsD rd ∈ S.getD (numD nd).toNat []))) := by
    unfold due
    rw [eS]
  rw [ed] at k
  cases hin : isNum nd 0 ((S.length : Int) - 1) with
  | false =>
    refine iteT ?_
    rw [hin] at k
    exact k H1 s1
  | true =>
    refine iteF ?_
    rw [hin, Bool.true_and] at k
    obtain ⟨en, n0, n1⟩ := num_of hin
    rw [en] at hn
    obtain rfl := dn_int hn
    refine ⟨_, rfl, _, rfl, a, _, _, _, rfl, rfl, s1.seqT ha, rfl, M, r, rd, la, ls, rfl, hrd.stay (Same.go s1), s1.seqT hla, by omega, fun H2 s2 => ?_⟩
    have s12 := s1.trans s2
    refine ⟨_, rfl, ?_⟩
    cases hir : isRow ls rd with
    | false =>
      refine iteF ?_
      rw [hir] at k
      exact k H2 s12
    | true =>
      refine iteT ?_
      rw [hir, Bool.true_and] at k
      obtain ⟨er, _⟩ := row_ints hir
      obtain ⟨v, hv, hvd⟩ := at_side (hwx.stay (Same.go s12)) (show (numD nd).toNat < S.length by omega)
      have hrd2 := hrd.stay (Same.go s12)
      rw [er] at hrd2
      refine ⟨_, rfl, _, rfl, _, rfl, wa, _, _, v, rfl, rfl, s12.seqT hwa, at_of (j := (numD nd).toNat) (by omega) hv, tupI (intsD rd), _, shaped_dp hrd2 (shaped_i _), dn_dp_rows hvd, shaped_i _, shaped_l _, ?_⟩
      rw [any_i]
      exact k H2 s12
/-! the law's own look -/
def isIntD : PyData → Bool
  | .int _ => true
  | _ => false
def spInteger (K : PySem.W.Frag) : Sp := fun vs H Q _ => ∃ (M : Addr → Prop) (x : V) (d : PyData), vs = [x] ∧ Dn M K H x d ∧ Q (.bl (isIntD d)) H
theorem ok_integer {f : Addr} {fd : FuncData} (B : Blt mg) (F : Fun K "_law_integer" "_law_integer" s_law_integer f fd) : FnOk P w K mg base CX0 1 f fd ["value"] (spInteger K) := by
  have sc : FnScope ["value"] ["value"] (defScope s_law_integer) := ⟨rfl, rfl, rfl, by decide +kernel, rfl, by decide +kernel, by decide +kernel⟩
  refine F.ok sc (fun vs H Q E h => ?_) (fun cdv A outer s H vs Q E hr h => ?_)
  · obtain ⟨_, _, _, rfl, _⟩ := h
    rfl
  obtain ⟨M, x, d, rfl, hd, k⟩ := h
  refine ⟨_, (pss_one (ps_ret (pe_and (pe_callB call_isi (by rfl) B.isinstance (by decide +kernel) (pa_cons (pv 0) (pa_cons (pe_bltn (v := V.ty "int") (u := Value.type "int") (by rfl) B.int (by decide +kernel) rfl) pa_nil))) (pe_one (pe_not (pe_callB call_isi (by rfl) B.isinstance (by decide +kernel) (pa_cons (pv 0) (pa_cons (pe_bltn (v := V.ty "bool") (u := Value.type "bool") (by rfl) B.bool (by decide +kernel) rfl) pa_nil)))))))), ?_⟩
  refine ⟨_, rfl, x, _, _, _, isInt2 d, rfl, ClsV.ty _, hd.ty, kit_ty (kit_int d), ?_⟩
  refine ⟨_, rfl, ?_⟩
  cases hi2 : isInt2 d with
  | false =>
    refine iteF ?_
    have e : isIntD d = false := by cases d <;> first | rfl | cases hi2
    rw [e] at k
    exact k
  | true =>
    refine iteT ?_
    refine ⟨_, rfl, x, _, _, _, isBool d, rfl, ClsV.ty _, hd.ty, kit_ty (kit_bool d), _, rfl, ?_⟩
    have e : isIntD d = !isBool d := by cases d <;> first | rfl | (simp [isInt2] at hi2; done)
    rw [e] at k
    exact k
/-- a row of ints, of any kind -/
def plainD (ls : List Int) : PyData → Bool
  | .tuple ds => decide (ds.length = ls.length) && ds.all isIntD
  | _ => false
theorem plain_ints {ls : List Int} {d : PyData} (h : plainD ls d = true) : d = tupI (intsD d) ∧ (intsD d).length = ls.length := by
  cases d with
  | tuple ds =>
    have h' : (decide (ds.length = ls.length) && ds.all isIntD) = true := h
    rw [Bool.and_eq_true, decide_eq_true_eq] at h'
    obtain ⟨e, a⟩ := h'
    have go : ∀ (ds : List PyData), ds.all isIntD = true → ds = (ds.map numD).map PyData.int := fun ds => by
      induction ds with
      | nil => intro _; rfl
      | cons d ds ih =>
        intro a
        rw [List.all_cons, Bool.and_eq_true] at a
        rw [List.map_cons, List.map_cons, ← ih a.2]
        cases d with
        | int i => rfl
        | _ => cases a.1
    refine ⟨?_, ?_⟩
    · show PyData.tuple ds = .tuple ((ds.map numD).map PyData.int)
      rw [← go ds a]
    · show (ds.map numD).length = _
      rw [List.length_map, e]
  | _ => cases h
theorem not_any : ∀ ds : List PyData, (!ds.any (((fun y => eqV y (V.bl false)) ∘ V.bl) ∘ isIntD)) = ds.all isIntD
  | [] => rfl
  | d :: ds => by
    rw [List.any_cons, List.all_cons, ← not_any ds, Bool.not_or]
    congr 1
    show (!(isIntD d == false)) = isIntD d
    cases isIntD d <;> rfl
def spPlain (K : PySem.W.Frag) : Sp := fun vs H Q _ => ∃ (M : Addr → Prop) (x : V) (d : PyData) (la : Addr) (ls : List Int), vs = [x, .ref la] ∧ Dn M K H x d ∧ SqT K H la (ls.map V.int) ∧ ls.length ≤ 1000 ∧ ∀ H', Same H H' → Q (.bl (plainD ls d)) H'
theorem ok_plain {f : Addr} {fd : FuncData} (B : Blt mg) (g_law_integer : Has P w K mg base CX0 1 "_law_integer" ["value"] (spInteger K)) (F : Fun K "_law_plain" "_law_plain" s_law_plain f fd) : FnOk P w K mg base CX0 2 f fd ["row", "labels"] (spPlain K) := by
  have sc : FnScope ["row", "labels", "label"] ["row", "labels"] (defScope s_law_plain) := ⟨rfl, rfl, rfl, by decide +kernel, rfl, by decide +kernel, by decide +kernel⟩
  refine F.ok sc (fun vs H Q E h => ?_) (fun cdv A outer s H vs Q E hr h => ?_)
  · obtain ⟨_, _, _, _, _, rfl, _⟩ := h
    rfl
  obtain ⟨M, x, d, la, ls, rfl, hd, hla, hz, k⟩ := h
  refine ⟨_, (pss_cons (ps_if (PW.pt (pw_or (pt_not (pt_val (pe_callB call_isi (by rfl) B.isinstance (by decide +kernel) (pa_cons (pv 0) (pa_cons (pe_bltn (v := V.ty "tuple") (u := Value.type "tuple") (by rfl) B.tuple (by decide +kernel) rfl) pa_nil))))) (pw_or1 (pt_cmpR op_nei (pe_callB call_len_seq (by rfl) B.len (by decide +kernel) (pa_cons (pv 0) pa_nil)) (pe_callB call_len_seq (by rfl) B.len (by decide +kernel) (pa_cons (pv 1) pa_nil)) (nomark _)))))
      (pss_one (ps_ret pe_bl))
      pss_nil)
    (pss_one (ps_ret (pe_cmpR op_notIn_seq pe_bl (pe_lc (own := [("label", 2)]) (g := gName 2) (tt := tYes) rfl sc.nd (pi_tup (pv 0)) (blkOk_by (N := ["row", "labels", "label"]) (sc := defScope s_law_plain) (by decide +kernel)) (fun _ _ _ _ _ => pg_name (i := 2) sc.nd rfl (Or.inl rfl)) (fun _ _ _ _ _ => pts_nil) (fun _ _ _ _ _ => (pc g_law_integer hr (pa_cons (pv 2) pa_nil)))) (by with_unfolding_all rfl))))), ?_⟩
  have no : plainD ls d = false → Q (.bl false) H := fun e => by have := k H (Same.refl _); rw [e] at this; exact this
  refine ⟨_, rfl, x, _, _, _, isTup d, rfl, ClsV.ty _, hd.ty, kit_ty (kit_tup d), _, rfl, ?_⟩
  cases ht : isTup d with
  | false =>
    refine iteT ?_
    refine iteT ?_
    exact no (by cases d <;> first | rfl | cases ht)
  | true =>
    refine iteF ?_
    obtain ⟨ds, rfl⟩ := isTup_of ht
    obtain ⟨a, xs, rfl, ha, hx⟩ := dn_tup hd
    have e : plainD ls (.tuple ds) = (decide (ds.length = ls.length) && ds.all isIntD) := rfl
    refine ⟨_, rfl, a, _, rfl, .inr ha, _, rfl, la, _, rfl, .inr hla, _, _, rfl, rfl, _, rfl, ?_⟩
    by_cases hl : ds.length = ls.length
    · have e2 : ((xs.length : Nat) : Int) = (((ls.map V.int).length : Nat) : Int) := by rw [hx.len, List.length_map, hl]
      rw [decide_eq_true e2]
      refine iteF ?_
      refine ⟨_, rfl, a, rfl, ⟨_, ha⟩, fun p hp => ?_⟩
      refine itt_walk (K := K) (a := a) (xs := xs) (fun i H' => Same H H' ∧ H' p = some (.lst (((ds.take i).map isIntD).map V.bl))) ⟨same_new hp _, upd_same⟩ (fun i H' _ z => z.1.seqT ha) ?_ ?_
      · rintro i y H' hy ⟨sm, hH⟩
        obtain ⟨dy, hdy, hyd⟩ := hx.of hy
        refine ⟨rfl, ?_⟩
        refine ⟨_, rfl, M, y, dy, rfl, hyd.stay (Same.go sm), ?_⟩
        refine ⟨_, hH, ?_, same_own sm hp _, ?_⟩
        · rw [List.length_map, List.length_map, List.length_take]
          exact lt_small (by omega)
        · rw [upd_same, take_more hdy, List.map_append, List.map_append]
          rfl
      · rintro H' ⟨sm, hH⟩
        rw [List.take_of_length_le (by rw [hx.len]; exact Nat.le_refl _)] at hH
        refine ⟨p, _, rfl, .inl (SqL.of hH), rfl, by simp [flatV], ?_⟩
        have q := k H' sm
        rw [e, decide_eq_true hl, Bool.true_and] at q
        have eq : ds.all isIntD = !inV (V.bl false) ((ds.map isIntD).map V.bl) := by
          unfold inV
          rw [List.any_map, List.any_map]
          exact (not_any ds).symm
        rw [eq] at q
        exact q
    · have e2 : ¬ ((xs.length : Nat) : Int) = (((ls.map V.int).length : Nat) : Int) := by rw [hx.len, List.length_map]; omega
      rw [decide_eq_false e2]
      refine iteT ?_
      refine no ?_
      rw [e, decide_eq_false hl]
      rfl
end
section
variable {P : Program} {w : World} {K : PySem.W.Frag} {mg : Str → Option Value} {base : Heap}
def spExch (K : PySem.W.Frag) : Sp := fun vs H Q _ => ∃ (a : Addr) (v0 v1 v2 v3 v4 : V), vs = [.ref a] ∧ SqT K H a [v0, v1, v2, v3, v4] ∧ ∀ (p : Addr) (H' : Hp), Same H H' → SqT K H' p [v0, v1, v2, v4, v3] → Q (.ref p) H'
theorem ok_exch {f : Addr} {fd : FuncData} (F : Fun K "sides_exchanged" "sides_exchanged" ssides_exchanged f fd) : FnOk P w K mg base CX0 1 f fd ["task"] (spExch K) := by
  have sc : FnScope ["task", "word", "D", "labels", "white", "black"] ["task"] (defScope ssides_exchanged) := ⟨rfl, rfl, rfl, by decide +kernel, rfl, by decide +kernel, by decide +kernel⟩
  refine F.ok sc (fun vs H Q E h => ?_) (fun cdv A outer s H vs Q E hr h => ?_)
  · obtain ⟨_, _, _, _, _, _, rfl, _⟩ := h
    rfl
  obtain ⟨a, v0, v1, v2, v3, v4, rfl, ha, k⟩ := h
  refine ⟨_, (pss_cons (ps_asg (pv 0) (pg_tup rfl (pgs_cons (pg_name (i := 1) sc.nd rfl (Or.inl rfl)) (pgs_cons (pg_name (i := 2) sc.nd rfl (Or.inl rfl)) (pgs_cons (pg_name (i := 3) sc.nd rfl (Or.inl rfl)) (pgs_cons (pg_name (i := 4) sc.nd rfl (Or.inl rfl)) (pgs_cons (pg_name (i := 5) sc.nd rfl (Or.inl rfl)) pgs_nil)))))))
    (pss_one (ps_ret (pe_tup (pa_cons (pv 1) (pa_cons (pv 2) (pa_cons (pv 3) (pa_cons (pv 5) (pa_cons (pv 4) pa_nil))))))))), ?_⟩
  refine ⟨_, rfl, a, _, rfl, ha, rfl, _, _, rfl, _, _, rfl, _, _, rfl, _, _, rfl, _, _, rfl, rfl, ?_⟩
  refine ⟨_, rfl, _, rfl, _, rfl, _, rfl, _, rfl, (by show 5 ≤ sizeLine; decide), fun p hp => ?_⟩
  exact k p _ (same_new hp _) (SqT.of upd_same)
def spTurned (K : PySem.W.Frag) (C : Addr) : Sp := fun vs H Q E => ∃ (M : Addr → Prop) (x : V) (d : PyData), vs = [x] ∧ Dn M K H x d ∧ d.bulk ≤ 1000000 ∧ WordOk d ∧ ((isTask d = false ∧ ∀ H', Same H H' → E (.ref C) none H') ∨
  (isTask d = true ∧ ∃ (a : Addr) (v0 v1 v2 v3 v4 : V), x = .ref a ∧ SqT K H a [v0, v1, v2, v3, v4] ∧ ∀ (p : Addr) (H' : Hp), Same H H' → SqT K H' p [v0, v1, v2, v4, v3] → Q (.ref p) H'))
theorem ok_turned {C : Addr} {f : Addr} {fd : FuncData} (gsides_exchanged : Has P w K mg base CX0 1 "sides_exchanged" ["task"] (spExch K)) (gcheck_task : Has P w K mg base (L2.CX P w) 6 "check_task" ["task"] (spCheckT K C)) (F : Fun K "turned" "turned" sturned f fd) : FnOk P w K mg base (L2.CX P w) 7 f fd ["task"] (spTurned K C) := by
  have sc : FnScope ["task"] ["task"] (defScope sturned) := ⟨rfl, rfl, rfl, by decide +kernel, rfl, by decide +kernel, by decide +kernel⟩
  refine F.okX sc (fun vs H Q E h => ?_) (fun cdv A outer s H vs Q E hr h => ?_)
  · obtain ⟨_, _, _, rfl, _⟩ := h
    rfl
  obtain ⟨M, x, d, rfl, hd, hb, hw, h⟩ := h
  refine ⟨_, (pss_cons (ps_expr (pcE gcheck_task hr (takes_of rfl rfl rfl rfl) (pa_cons (pv 0) pa_nil)))
    (pss_one (ps_ret (pc gsides_exchanged hr (pa_cons (pv 0) pa_nil))))), ?_⟩
  rcases h with ⟨hn, kf⟩ | ⟨ht, a, v0, v1, v2, v3, v4, rfl, ha, kt⟩
  · exact ⟨_, rfl, M, x, d, rfl, hd, hb, hw, (fun z => by rw [z] at hn; cases hn), fun _ => kf⟩
  refine ⟨_, rfl, M, _, d, rfl, hd, hb, hw, fun _ H' sm => ?_, fun z => by rw [z] at ht; cases ht⟩
  exact ⟨_, rfl, a, v0, v1, v2, v3, v4, rfl, sm.seqT ha, fun p H2 s2 hp => kt p H2 (sm.trans s2) hp⟩
end
section
variable {P : Program} {w : World} {K : PySem.W.Frag} {mg : Str → Option Value} {base : Heap}
def isS : PyData → Bool
  | .str _ => true
  | _ => false
theorem kit_str (d : PyData) : kitB (tyD d) "str" = some (isS d) := by cases d <;> (simp only [tyD, isS]; decide +kernel)
/-- how the task lies -/
theorem task_at {H : Hp} {x : V} {D : Int} {ls : List Int} {W B : List (List (List Int))} (h : Dt K H x (taskD D ls W B)) : ∃ a la wa ba wxs bxs, x = .ref a ∧ SqT K H a [.str "task", .int D, .ref la, .ref wa, .ref ba] ∧ SqT K H la (ls.map V.int) ∧
    SqT K H wa wxs ∧ DtAll K H wxs (W.map fun rows => PyData.tuple (rows.map tupI)) ∧ SqT K H ba bxs ∧ DtAll K H bxs (B.map fun rows => PyData.tuple (rows.map tupI)) := by
  cases h with
  | tup ha hx =>
  cases hx with
  | cons h0 hx =>
  cases h0
  cases hx with
  | cons h1 hx =>
  cases h1
  cases hx with
  | cons h2 hx =>
  cases hx with
  | cons h3 hx =>
  cases hx with
  | cons h4 hx =>
  cases hx
  cases h2 with
  | tup hla hlx =>
  cases h3 with
  | tup hwa hwx =>
  cases h4 with
  | tup hba hbx =>
  rw [ints_of hlx] at hla
  exact ⟨_, _, _, _, _, _, rfl, ha, hla, hwa, hwx, hba, hbx⟩
theorem at_sideT {H : Hp} {xs : List V} {W : List (List (List Int))} {i : Nat} (h : DtAll K H xs (W.map fun rows => PyData.tuple (rows.map tupI))) (hi : i < W.length) : ∃ v, xs[i]? = some v ∧ Dt K H v (.tuple ((W.getD i []).map tupI)) := by
  obtain ⟨v, hv, hd⟩ := h.at (show (W.map fun rows => PyData.tuple (rows.map tupI))[i]? = some (.tuple ((W.getD i []).map tupI)) by simp [List.getD, hi])
  exact ⟨v, hv, hd⟩
theorem good_at {ls : List Int} {W : List (List (List Int))} (g : GoodS ls W) {i : Nat} (hi : i < W.length) : Good ls (W.getD i []) := by
  have : W.getD i [] = W[i] := by simp [List.getD, hi]
  rw [this]
  exact g.2.2 _ (List.getElem_mem hi)
theorem row_plain {ls : List Int} {d : PyData} (h : isRow ls d = true) : plainD ls d = true := by
  obtain ⟨e, l⟩ := row_ints h
  rw [e]
  show (decide (((intsD d).map PyData.int).length = ls.length) && ((intsD d).map PyData.int).all isIntD) = true
  rw [decide_eq_true (by rw [List.length_map]; exact l), Bool.true_and, List.all_map]
  exact List.all_eq_true.mpr fun x _ => rfl
/-- the last look -/
theorem due_last {ls : List Int} {S : List (List (List Int))} (g : GoodS ls S) {i : Nat} (hi : i < S.length) {rd : PyData} (hp : plainD ls rd = true) : (isRow ls rd && decide (intsD rd ∈ S.getD i [])) = decide (intsD rd ∈ S.getD i []) := by
  by_cases hm : intsD rd ∈ S.getD i []
  · have r := (good_at g hi).2.1 _ hm
    rw [← (plain_ints hp).1] at r
    rw [r, Bool.true_and]
  · rw [decide_eq_false hm, Bool.and_false]
def spDueL (K : PySem.W.Frag) : Sp := fun vs H Q _ => ∃ (M : Addr → Prop) (x s n r : V) (sd nd rd : PyData) (D : Int) (ls : List Int) (W B : List (List (List Int))), vs = [x, s, n, r] ∧ Dt K H x (taskD D ls W B) ∧ GoodS ls W ∧ GoodS ls B ∧ ls.length ≤ 4 ∧ Dn M K H s sd ∧ Dn M K H n nd ∧ Dn M K H r rd ∧
  ∀ H', Same H H' → Q (.bl (due ls W B sd nd rd)) H'
set_option maxHeartbeats 1000000 in
theorem ok_due {f : Addr} {fd : FuncData} (B : Blt mg) (g_law_integer : Has P w K mg base CX0 1 "_law_integer" ["value"] (spInteger K)) (g_law_plain : Has P w K mg base CX0 2 "_law_plain" ["row", "labels"] (spPlain K))
    (F : Fun K "_law_due" "_law_due" s_law_due f fd) : FnOk P w K mg base CX0 3 f fd ["task", "side", "number", "row"] (spDueL K) := by
  have sc : FnScope ["task", "side", "number", "row", "inputs"] ["task", "side", "number", "row"] (defScope s_law_due) := ⟨rfl, rfl, rfl, by decide +kernel, rfl, by decide +kernel, by decide +kernel⟩
  refine F.ok sc (fun vs H Q E h => ?_) (fun cdv A outer s H vs Q E hr h => ?_)
  · obtain ⟨_, _, _, _, _, _, _, _, _, _, _, _, rfl, _⟩ := h
    rfl
  obtain ⟨M, x, sv, n, r, sd, nd, rd, D, ls, W, Bl, rfl, hT, gW, gB, l4, hs, hn, hrd, k⟩ := h
  refine ⟨_, (pss_cons (ps_if (PW.pt (pw_or (pt_not (pt_val (pe_callB call_isi (by rfl) B.isinstance (by decide +kernel) (pa_cons (pv 1) (pa_cons (pe_bltn (v := V.ty "str") (u := Value.type "str") (by rfl) B.str (by decide +kernel) rfl) pa_nil))))) (pw_or1 (pt_cmpR op_notIn_seq (pv 1) (pe_lst (pa_cons pe_str (pa_cons pe_str pa_nil))) (by with_unfolding_all rfl)))))
      (pss_one (ps_ret pe_bl))
      pss_nil)
    (pss_cons (ps_set (i := 4) sc.nd rfl (Or.inl rfl) (pe_ix ix_tup (pv 0) pe_int (fun _ _ => rfl)))
    (pss_cons (ps_if (pt_cmpR op_eqs (pv 1) pe_str (nomark _))
      (pss_one (ps_set (i := 4) sc.nd rfl (Or.inl rfl) (pe_ix ix_tup (pv 0) pe_int (fun _ _ => rfl))))
      pss_nil)
    (pss_cons (ps_if (PW.pt (pw_or (pt_not (pt_val (pc g_law_integer hr (pa_cons (pv 2) pa_nil)))) (pw_or (pt_cmpR op_lt (pv 2) pe_int (nomark _)) (pw_or (pt_cmpR op_ge (pv 2) (pe_callB call_len_seq (by rfl) B.len (by decide +kernel) (pa_cons (pv 4) pa_nil)) (nomark _)) (pw_or1 (pt_not (pt_val (pc g_law_plain hr (pa_cons (pv 3) (pa_cons (pe_ix ix_tup (pv 0) pe_int (fun _ _ => rfl)) pa_nil))))))))))
      (pss_one (ps_ret pe_bl))
      pss_nil)
    (pss_one (ps_ret (pe_cmpR (op_inTD hr.units2) (pv 3) (pe_ix ix_tup (pv 4) (pv 2) (fun _ _ => rfl)) (by with_unfolding_all rfl)))))))), ?_⟩
  obtain ⟨a, la, wa, ba, wxs, bxs, rfl, ha, hla, hwa, hwx, hba, hbx⟩ := task_at hT
  refine ⟨_, rfl, sv, _, _, _, isS sd, rfl, ClsV.ty _, hs.ty, kit_ty (kit_str sd), _, rfl, ?_⟩
  cases hss : isS sd with
  | false =>
    refine iteT ?_
    refine iteT ?_
    have e : due ls W Bl sd nd rd = false := by
      unfold due
      rw [side_n (by cases sd <;> first | rfl | cases hss) (by cases sd <;> first | rfl | cases hss)]
    have q := k H (Same.refl _)
    rw [e] at q
    exact q
  | true =>
    refine iteF ?_
    obtain ⟨y, rfl⟩ : ∃ y, sd = .str y := by cases sd <;> first | exact ⟨_, rfl⟩ | cases hss
    obtain rfl := dn_str hs
    refine ⟨_, rfl, (by show 2 ≤ sizeLine; decide), fun p hp => ⟨p, _, rfl, .inl (SqL.of upd_same), rfl, rfl, _, rfl, ?_⟩⟩
    have s1 := same_new hp (.lst [.str "white", .str "black"])
    have ein : inV (V.str y) [.str "white", .str "black"] = (isStr "white" (.str y) || isStr "black" (.str y)) := by
      show (("white" : Str) == y || (("black" : Str) == y || false)) = (decide (y = "white") || decide (y = "black"))
      have hq : ∀ z : Str, (z == y) = decide (y = z) := fun z => by
        by_cases h : y = z
        · rw [decide_eq_true h, h]
          exact beq_self_eq_true z
        · rw [decide_eq_false h]
          exact beq_eq_false_iff_ne.mpr fun q => h q.symm
      rw [hq, hq, Bool.or_false]
    rw [ein]
    cases hc : isStr "white" (.str y) with
    | true =>
      refine iteF ?_
      have eS := side_w (W := W) (B := Bl) hc
      have hw : y = "white" := dec_t hc
      have ed : due ls W Bl (.str y) nd rd = (isNum nd 0 ((W.length : Int) - 1) && (isRow ls rd && decide (intsD rd ∈ W.getD (numD nd).toNat []))) := by
        unfold due
        rw [eS]
      have gS := gW
      refine ⟨_, rfl, a, _, _, _, rfl, rfl, s1.seqT ha, at_of (j := 3) rfl rfl, ?_⟩
      refine ⟨_, rfl, y, "black", rfl, rfl, _, rfl, ?_⟩
      rw [decide_eq_false (show ¬ y = "black" by rw [hw]; decide)]
      refine iteF ?_
      have i1 : isIntD nd = true ∨ isIntD nd = false := by cases isIntD nd <;> simp
      refine ⟨_, rfl, M, n, nd, rfl, hn.stay (Same.go s1), _, rfl, ?_⟩
      cases hi : isIntD nd with
      | false =>
        refine iteT ?_
        refine iteT ?_
        have q := k _ s1
        rw [ed, show isNum nd 0 ((W.length : Int) - 1) = false by cases nd <;> first | rfl | cases hi] at q
        exact q
      | true =>
        refine iteF ?_
        obtain ⟨i, rfl⟩ : ∃ i, nd = .int i := by cases nd <;> first | exact ⟨_, rfl⟩ | cases hi
        obtain rfl := dn_int hn
        have en : isNum (.int i) 0 ((W.length : Int) - 1) = (decide (0 ≤ i) && decide (i ≤ (W.length : Int) - 1)) := rfl
        have eL : ((wxs.length : Nat) : Int) = ((W.length : Nat) : Int) := by rw [hwx.len, List.length_map]
        refine ⟨_, rfl, _, _, rfl, rfl, _, rfl, ?_⟩
        refine ite2 (fun c => ?_) (fun c => ?_)
        · refine iteT ?_
          have q := k _ s1
          rw [ed, en, decide_eq_false (by have := dec_t c; omega)] at q
          exact q
        have c0 := dec_f c
        refine ⟨_, rfl, _, rfl, wa, _, rfl, .inr (s1.seqT hwa), _, _, rfl, rfl, _, rfl, ?_⟩
        rw [eL]
        refine ite2 (fun c => ?_) (fun c => ?_)
        · refine iteT ?_
          have q := k _ s1
          rw [ed, en, decide_eq_false (p := i ≤ (W.length : Int) - 1) (by have := dec_t c; omega), Bool.and_false] at q
          exact q
        have c1 := dec_f c
        refine ⟨_, rfl, _, rfl, a, _, _, _, rfl, rfl, s1.seqT ha, at_of (j := 2) rfl rfl, M, r, rd, la, ls, rfl, hrd.stay (Same.go s1), s1.seqT hla, by omega, fun H2 s2 => ⟨_, rfl, ?_⟩⟩
        have s12 := s1.trans s2
        have e2 : due ls W Bl (.str y) (.int i) rd = (isRow ls rd && decide (intsD rd ∈ W.getD i.toNat [])) := by
          rw [ed, en, decide_eq_true (by omega), decide_eq_true (p := i ≤ (W.length : Int) - 1) (by omega)]
          rfl
        cases hpl : plainD ls rd with
        | false =>
          refine iteT ?_
          have q := k _ s12
          have er : isRow ls rd = false := by
            cases hz : isRow ls rd with
            | false => rfl
            | true =>
              rw [row_plain hz] at hpl
              cases hpl
          rw [e2, er] at q
          exact q
        | true =>
          refine iteF ?_
          obtain ⟨er, _⟩ := plain_ints hpl
          obtain ⟨v, hv, hvd⟩ := at_sideT (hwx.stay s12.tups) (show i.toNat < W.length by omega)
          have hrd2 := hrd.stay (Same.go s12)
          rw [er] at hrd2
          refine ⟨_, rfl, _, rfl, _, rfl, wa, _, _, v, rfl, rfl, s12.seqT hwa, at_of (j := i.toNat) (by omega) hv, tupI (intsD rd), _, shaped_dp hrd2 (shaped_i _), hvd.dp, shaped_i _, shaped_l _, ?_⟩
          rw [any_i]
          have q := k _ s12
          rw [e2, due_last gS (by omega) hpl] at q
          exact q
    | false =>
      cases hc2 : isStr "black" (.str y) with
      | false =>
        refine iteT ?_
        have e : due ls W Bl (.str y) nd rd = false := by
          unfold due
          rw [side_n hc hc2]
        have q := k _ s1
        rw [e] at q
        exact q
      | true =>
        refine iteF ?_
        have eS := side_b (W := W) (B := Bl) hc hc2
        have hw : y = "black" := dec_t hc2
        have ed : due ls W Bl (.str y) nd rd = (isNum nd 0 ((Bl.length : Int) - 1) && (isRow ls rd && decide (intsD rd ∈ Bl.getD (numD nd).toNat []))) := by
          unfold due
          rw [eS]
        have gS := gB
        refine ⟨_, rfl, a, _, _, _, rfl, rfl, s1.seqT ha, at_of (j := 3) rfl rfl, ?_⟩
        refine ⟨_, rfl, y, "black", rfl, rfl, _, rfl, ?_⟩
        rw [decide_eq_true hw]
        refine iteT ?_
        refine ⟨_, rfl, a, _, _, _, rfl, rfl, s1.seqT ha, at_of (j := 4) rfl rfl, ?_⟩
        have i1 : isIntD nd = true ∨ isIntD nd = false := by cases isIntD nd <;> simp
        refine ⟨_, rfl, M, n, nd, rfl, hn.stay (Same.go s1), _, rfl, ?_⟩
        cases hi : isIntD nd with
        | false =>
          refine iteT ?_
          refine iteT ?_
          have q := k _ s1
          rw [ed, show isNum nd 0 ((Bl.length : Int) - 1) = false by cases nd <;> first | rfl | cases hi] at q
          exact q
        | true =>
          refine iteF ?_
          obtain ⟨i, rfl⟩ : ∃ i, nd = .int i := by cases nd <;> first | exact ⟨_, rfl⟩ | cases hi
          obtain rfl := dn_int hn
          have en : isNum (.int i) 0 ((Bl.length : Int) - 1) = (decide (0 ≤ i) && decide (i ≤ (Bl.length : Int) - 1)) := rfl
          have eL : ((bxs.length : Nat) : Int) = ((Bl.length : Nat) : Int) := by rw [hbx.len, List.length_map]
          refine ⟨_, rfl, _, _, rfl, rfl, _, rfl, ?_⟩
          refine ite2 (fun c => ?_) (fun c => ?_)
          · refine iteT ?_
            have q := k _ s1
            rw [ed, en, decide_eq_false (by have := dec_t c; omega)] at q
            exact q
          have c0 := dec_f c
          refine ⟨_, rfl, _, rfl, ba, _, rfl, .inr (s1.seqT hba), _, _, rfl, rfl, _, rfl, ?_⟩
          rw [eL]
          refine ite2 (fun c => ?_) (fun c => ?_)
          · refine iteT ?_
            have q := k _ s1
            rw [ed, en, decide_eq_false (p := i ≤ (Bl.length : Int) - 1) (by have := dec_t c; omega), Bool.and_false] at q
            exact q
          have c1 := dec_f c
          refine ⟨_, rfl, _, rfl, a, _, _, _, rfl, rfl, s1.seqT ha, at_of (j := 2) rfl rfl, M, r, rd, la, ls, rfl, hrd.stay (Same.go s1), s1.seqT hla, by omega, fun H2 s2 => ⟨_, rfl, ?_⟩⟩
          have s12 := s1.trans s2
          have e2 : due ls W Bl (.str y) (.int i) rd = (isRow ls rd && decide (intsD rd ∈ Bl.getD i.toNat [])) := by
            rw [ed, en, decide_eq_true (by omega), decide_eq_true (p := i ≤ (Bl.length : Int) - 1) (by omega)]
            rfl
          cases hpl : plainD ls rd with
          | false =>
            refine iteT ?_
            have q := k _ s12
            have er : isRow ls rd = false := by
              cases hz : isRow ls rd with
              | false => rfl
              | true =>
                rw [row_plain hz] at hpl
                cases hpl
            rw [e2, er] at q
            exact q
          | true =>
            refine iteF ?_
            obtain ⟨er, _⟩ := plain_ints hpl
            obtain ⟨v, hv, hvd⟩ := at_sideT (hbx.stay s12.tups) (show i.toNat < Bl.length by omega)
            have hrd2 := hrd.stay (Same.go s12)
            rw [er] at hrd2
            refine ⟨_, rfl, _, rfl, _, rfl, ba, _, _, v, rfl, rfl, s12.seqT hba, at_of (j := i.toNat) (by omega) hv, tupI (intsD rd), _, shaped_dp hrd2 (shaped_i _), hvd.dp, shaped_i _, shaped_l _, ?_⟩
            rw [any_i]
            have q := k _ s12
            rw [e2, due_last gS (by omega) hpl] at q
            exact q
end
section
variable {P : Program} {w : World} {K : PySem.W.Frag} {mg : Str → Option Value} {base : Heap}
def spEvery (K : PySem.W.Frag) : Sp := fun vs H Q _ => ∃ (x : V) (D : Int) (ls : List Int) (W B : List (List (List Int))), vs = [x] ∧ Dt K H x (taskD D ls W B) ∧ GoodS ls W ∧ GoodS ls B ∧ ls.length ≤ 4 ∧ isTask (taskD D ls W B) = true ∧ (taskD D ls W B).bulk ≤ 1000000 ∧ ∀ H', Same H H' → Q (.bl true) H'
theorem due_in {ls : List Int} {W B S : List (List (List Int))} {s : PyData} (e : sideOf s W B = some S) (g : GoodS ls S) {i : Nat} (hi : i < S.length) {r : List Int} (hm : r ∈ S.getD i []) : due ls W B s (.int (i : Nat)) (tupI r) = true := by
  unfold due
  rw [e]
  show (isNum (.int (i : Nat)) 0 ((S.length : Int) - 1) && (isRow ls (tupI r) && decide (intsD (tupI r) ∈ S.getD (numD (.int (i : Nat))).toNat []))) = true
  rw [intsD_t, (good_at g hi).2.1 _ hm]
  show ((decide ((0 : Int) ≤ (i : Nat)) && decide (((i : Nat) : Int) ≤ (S.length : Int) - 1)) && (true && decide (r ∈ S.getD ((i : Nat) : Int).toNat []))) = true
  rw [decide_eq_true (by omega), decide_eq_true (by omega), Int.toNat_natCast, decide_eq_true hm]
  rfl
set_option maxHeartbeats 1000000 in
theorem ok_every {C : Addr} {f : Addr} {fd : FuncData} (B : Blt mg) (grow_allowed : Has P w K mg base (L2.CX P w) 7 "row_allowed" ["task", "side", "number", "row"] (spAllowed K C)) (F : Fun K "_law_every" "_law_every" s_law_every f fd) : FnOk P w K mg base CX0 8 f fd ["task"] (spEvery K) := by
  have sc : FnScope ["task", "side", "inputs", "number", "row", "answer"] ["task"] (defScope s_law_every) := ⟨rfl, rfl, rfl, by decide +kernel, rfl, by decide +kernel, by decide +kernel⟩
  refine F.ok sc (fun vs H Q E h => ?_) (fun cdv A outer s H vs Q E hr h => ?_)
  · obtain ⟨_, _, _, _, _, rfl, _⟩ := h
    rfl
  obtain ⟨x, D, ls, W, Bl, rfl, hT, gW, gB, l4, it, hb, k⟩ := h
  refine ⟨_, (pss_cons (ps_for PassesOwn.never rfl (pi_list (pe_lst (pa_cons pe_str (pa_cons pe_str pa_nil)))) (pg_name (i := 1) sc.nd rfl (Or.inl rfl))
      (pss_cons (ps_set (i := 2) sc.nd rfl (Or.inl rfl) (pe_ix ix_tup (pv 0) pe_int (fun _ _ => rfl)))
      (pss_cons (ps_if (pt_cmpR op_eqs (pv 1) pe_str (nomark _))
        (pss_one (ps_set (i := 2) sc.nd rfl (Or.inl rfl) (pe_ix ix_tup (pv 0) pe_int (fun _ _ => rfl))))
        pss_nil)
      (pss_one (ps_for PassesOwn.never rfl (pi_range1 (by rfl) B.range (pa_cons (pe_callB call_len_seq (by rfl) B.len (by decide +kernel) (pa_cons (pv 2) pa_nil)) pa_nil)) (pg_name (i := 3) sc.nd rfl (Or.inl rfl))
        (pss_one (ps_for PassesOwn.never rfl (pi_tup (pe_ix ix_tup (pv 2) (pv 3) (fun _ _ => rfl))) (pg_name (i := 4) sc.nd rfl (Or.inl rfl))
          (pss_cons (ps_set (i := 5) sc.nd rfl (Or.inl rfl) (pcX grow_allowed hr (pa_cons (pv 0) (pa_cons (pv 1) (pa_cons (pv 3) (pa_cons (pv 4) pa_nil))))))
          (pss_one (ps_if (PW.pt (pw_or (pt_not (pt_val (pe_callB call_isi (by rfl) B.isinstance (by decide +kernel) (pa_cons (pv 5) (pa_cons (pe_bltn (v := V.ty "bool") (u := Value.type "bool") (by rfl) B.bool (by decide +kernel) rfl) pa_nil))))) (pw_or1 (pt_not (pt_val (pv 5))))))
            (pss_one (ps_ret pe_bl))
            pss_nil))))))))))
    (pss_one (ps_ret pe_bl))), ?_⟩
  refine ⟨(by show 2 ≤ sizeLine; decide), fun p hp => ?_⟩
  have sp := same_new hp (.lst [.str "white", .str "black"])
  have ep := upd_same (H := H) (a := p) (o := .lst [.str "white", .str "black"])
  refine ⟨p, rfl, ⟨_, SqL.of upd_same⟩, for_list (K := K) (a := p) (xs := [.str "white", .str "black"]) (fun i σ H' => ∃ (sv iv nv rv av : Option V), σ = [some x, sv, iv, nv, rv, av] ∧ Same H H' ∧ H' p = some (.lst [.str "white", .str "black"]))
    ⟨none, none, none, none, none, rfl, sp, ep⟩ (fun i σ H' _ ⟨_, _, _, _, _, _, _, e⟩ => SqL.of e) ?_ ?_⟩
  · rintro i sv σ H' hi ⟨s0, iv, nv, rv, av, rfl, sm, e⟩
    obtain ⟨a, la, wa, ba, wxs, bxs, rfl, ha, hla, hwa, hwx, hba, hbx⟩ := task_at (hT.stay sm.tups)
    refine ⟨_, rfl, a, _, _, _, rfl, rfl, ha, at_of (j := 3) rfl rfl, ?_⟩
    rcases (show i = 0 ∨ i = 1 by have := (List.getElem?_eq_some_iff.mp hi).1; simp at this; omega) with rfl | rfl
    · cases hi
      refine ⟨_, rfl, _, _, rfl, rfl, _, rfl, ?_⟩
      rw [decide_eq_false (show ¬ (("white" : Str) = "black") by decide)]
      refine iteF ?_
      have gS := gW
      have eS : sideOf (.str "white") W Bl = some W := side_w (by decide)
      refine ⟨_, rfl, wa, _, rfl, .inr hwa, ((wxs.length : Nat) : Int), rfl, by omega, by have := hwx.len; rw [List.length_map] at this; have := gS.2.1; omega, for_range (lo := 0) (n := ((wxs.length : Nat) : Int).toNat) (fun j σ H2 => ∃ (nv rv av : Option V), σ = [some (.ref a), some (.str "white"), some (.ref wa), nv, rv, av] ∧ Same H' H2)
        ⟨nv, rv, av, rfl, Same.refl _⟩ ?_ ?_⟩
      · rintro j σ H2 hj ⟨nv, rv, av, rfl, s2⟩
        have jl : j < W.length := by have := hwx.len; rw [List.length_map] at this; omega
        obtain ⟨v, hv, hvd⟩ := at_sideT (hwx.stay s2.tups) jl
        obtain ⟨ra, rxs, rfl, hra, hrx⟩ : ∃ ra rxs, v = .ref ra ∧ SqT K H2 ra rxs ∧ DtAll K H2 rxs ((W.getD j []).map tupI) := by
          cases hvd with
          | tup h1 h2 => exact ⟨_, _, rfl, h1, h2⟩
        refine ⟨_, rfl, _, rfl, wa, _, _, _, rfl, rfl, s2.seqT hwa, at_of (j := j) (by omega) hv, ra, rfl, ⟨_, hra⟩, for_tup (K := K) (a := ra) (xs := rxs) (fun m σ H3 => ∃ (rv av : Option V), σ = [some (.ref a), some (.str "white"), some (.ref wa), some (.int (0 + (j : Int))), rv, av] ∧ Same H2 H3)
          ⟨rv, av, rfl, Same.refl _⟩ (fun m σ H3 _ ⟨_, _, _, z⟩ => z.seqT hra) ?_ ?_⟩
        · rintro m y σ H3 hm ⟨rv, av, rfl, s3⟩
          obtain ⟨dy, hdy, hyd⟩ := hrx.of hm
          rw [List.getElem?_map] at hdy
          obtain ⟨r, hr1, rfl⟩ : ∃ r, (W.getD j [])[m]? = some r ∧ dy = tupI r := by
            cases e : (W.getD j [])[m]? with
            | none => rw [e] at hdy; cases hdy
            | some r => rw [e] at hdy; exact ⟨r, rfl, (Option.some.inj hdy).symm⟩
          have sall := (sm.trans s2).trans s3
          refine ⟨_, rfl, _, rfl, _, rfl, _, rfl, (fun _ => False), .ref a, .str "white", .int (0 + (j : Int)), y, _, .str "white", .int (0 + (j : Int)), tupI r, rfl, (hT.stay sall.tups).dn, .str _, .int _, (hyd.stay s3.tups).dn, hb, task_word _ _ _ _, (by decide +kernel), .inr ⟨D, ls, W, Bl, rfl, it, l4, fun H4 s4 => ?_⟩⟩
          rw [Int.zero_add, due_in eS gS jl (List.mem_of_getElem? hr1)]
          refine ⟨_, rfl, _, _, _, _, true, rfl, ClsV.ty _, TyX.base (TyOf.bl _), kit_ty (by decide +kernel), _, rfl, ?_⟩
          refine iteF ?_
          refine ⟨_, rfl, true, rfl, ?_⟩
          refine iteF ?_
          exact ⟨_, _, rfl, s3.trans s4⟩
        · rintro σ H3 ⟨rv, av, rfl, s3⟩
          exact ⟨_, _, _, rfl, s2.trans s3⟩
      · rintro σ H2 ⟨nv, rv, av, rfl, s2⟩
        exact ⟨_, _, _, _, _, rfl, sm.trans s2, s2 _ _ e⟩
    · cases hi
      refine ⟨_, rfl, _, _, rfl, rfl, _, rfl, ?_⟩
      rw [decide_eq_true (show (("black" : Str) = "black") by rfl)]
      refine iteT ?_
      refine ⟨_, rfl, a, _, _, _, rfl, rfl, ha, at_of (j := 4) rfl rfl, ?_⟩
      have gS := gB
      have eS : sideOf (.str "black") W Bl = some Bl := side_b (by decide) (by decide)
      refine ⟨_, rfl, ba, _, rfl, .inr hba, ((bxs.length : Nat) : Int), rfl, by omega, by have := hbx.len; rw [List.length_map] at this; have := gS.2.1; omega, for_range (lo := 0) (n := ((bxs.length : Nat) : Int).toNat) (fun j σ H2 => ∃ (nv rv av : Option V), σ = [some (.ref a), some (.str "black"), some (.ref ba), nv, rv, av] ∧ Same H' H2)
        ⟨nv, rv, av, rfl, Same.refl _⟩ ?_ ?_⟩
      · rintro j σ H2 hj ⟨nv, rv, av, rfl, s2⟩
        have jl : j < Bl.length := by have := hbx.len; rw [List.length_map] at this; omega
        obtain ⟨v, hv, hvd⟩ := at_sideT (hbx.stay s2.tups) jl
        obtain ⟨ra, rxs, rfl, hra, hrx⟩ : ∃ ra rxs, v = .ref ra ∧ SqT K H2 ra rxs ∧ DtAll K H2 rxs ((Bl.getD j []).map tupI) := by
          cases hvd with
          | tup h1 h2 => exact ⟨_, _, rfl, h1, h2⟩
        refine ⟨_, rfl, _, rfl, ba, _, _, _, rfl, rfl, s2.seqT hba, at_of (j := j) (by omega) hv, ra, rfl, ⟨_, hra⟩, for_tup (K := K) (a := ra) (xs := rxs) (fun m σ H3 => ∃ (rv av : Option V), σ = [some (.ref a), some (.str "black"), some (.ref ba), some (.int (0 + (j : Int))), rv, av] ∧ Same H2 H3)
          ⟨rv, av, rfl, Same.refl _⟩ (fun m σ H3 _ ⟨_, _, _, z⟩ => z.seqT hra) ?_ ?_⟩
        · rintro m y σ H3 hm ⟨rv, av, rfl, s3⟩
          obtain ⟨dy, hdy, hyd⟩ := hrx.of hm
          rw [List.getElem?_map] at hdy
          obtain ⟨r, hr1, rfl⟩ : ∃ r, (Bl.getD j [])[m]? = some r ∧ dy = tupI r := by
            cases e : (Bl.getD j [])[m]? with
            | none => rw [e] at hdy; cases hdy
            | some r => rw [e] at hdy; exact ⟨r, rfl, (Option.some.inj hdy).symm⟩
          have sall := (sm.trans s2).trans s3
          refine ⟨_, rfl, _, rfl, _, rfl, _, rfl, (fun _ => False), .ref a, .str "black", .int (0 + (j : Int)), y, _, .str "black", .int (0 + (j : Int)), tupI r, rfl, (hT.stay sall.tups).dn, .str _, .int _, (hyd.stay s3.tups).dn, hb, task_word _ _ _ _, (by decide +kernel), .inr ⟨D, ls, W, Bl, rfl, it, l4, fun H4 s4 => ?_⟩⟩
          rw [Int.zero_add, due_in eS gS jl (List.mem_of_getElem? hr1)]
          refine ⟨_, rfl, _, _, _, _, true, rfl, ClsV.ty _, TyX.base (TyOf.bl _), kit_ty (by decide +kernel), _, rfl, ?_⟩
          refine iteF ?_
          refine ⟨_, rfl, true, rfl, ?_⟩
          refine iteF ?_
          exact ⟨_, _, rfl, s3.trans s4⟩
        · rintro σ H3 ⟨rv, av, rfl, s3⟩
          exact ⟨_, _, _, rfl, s2.trans s3⟩
      · rintro σ H2 ⟨nv, rv, av, rfl, s2⟩
        exact ⟨_, _, _, _, _, rfl, sm.trans s2, s2 _ _ e⟩
  · rintro σ H' ⟨s0, iv, nv, rv, av, rfl, sm, e⟩
    exact k H' sm
def spRefusedT (K : PySem.W.Frag) : Sp := fun vs H Q _ => ∃ (M : Addr → Prop) (x r : V) (d rd : PyData), vs = [x, r] ∧ Dn M K H x d ∧ Dn M K H r rd ∧ isTask d = false ∧ d.bulk ≤ 1000000 ∧ WordOk d ∧ ∀ H', Same H H' → Q (.bl true) H'
theorem ok_refusedt {C : Addr} {f : Addr} {fd : FuncData} (eBadTask : Err K mg "BadTask" C) (hex : PySem.W.exmOne K (.ref C) (.ref C) = some true) (grow_allowed : Has P w K mg base (L2.CX P w) 7 "row_allowed" ["task", "side", "number", "row"] (spAllowed K C)) (gturned : Has P w K mg base (L2.CX P w) 7 "turned" ["task"] (spTurned K C))
    (F : Fun K "_law_refused" "_law_refused" s_law_refused f fd) : FnOk P w K mg base CX0 8 f fd ["task", "row"] (spRefusedT K) := by
  have sc : FnScope ["task", "row"] ["task", "row"] (defScope s_law_refused) := ⟨rfl, rfl, rfl, by decide +kernel, rfl, by decide +kernel, by decide +kernel⟩
  refine F.ok sc (fun vs H Q E h => ?_) (fun cdv A outer s H vs Q E hr h => ?_)
  · obtain ⟨_, _, _, _, _, rfl, _⟩ := h
    rfl
  obtain ⟨M, x, r, d, rd, rfl, hd, hrd, hn, hb, hw, k⟩ := h
  refine ⟨_, (pss_cons (ps_try_only rfl rfl ⟨rfl, by decide, .inl eBadTask.g⟩ takes0 (fun W pn xe tk _ =>
      (pss_cons (ps_expr (pcS grow_allowed hr tk (pa_cons (pv 0) (pa_cons pe_str (pa_cons pe_int (pa_cons (pv 1) pa_nil))))))
      (pss_one (ps_ret pe_bl))))
      (fun _ _ _ _ _ _ _ => (pss_one ps_pass)))
    (pss_cons (ps_try_only rfl rfl ⟨rfl, by decide, .inl eBadTask.g⟩ takes0 (fun W pn xe tk _ =>
      (pss_one (ps_expr (pcS gturned hr tk (pa_cons (pv 0) pa_nil)))))
      (fun _ _ _ _ _ _ _ => (pss_one (ps_ret pe_bl))))
    (pss_one (ps_ret pe_bl)))), ?_⟩
  refine ⟨_, rfl, _, rfl, M, x, .str "white", .int 0, r, d, .str "white", .int 0, rd, rfl, hd, .str _, .int _, hrd, hb, hw, (by decide +kernel), .inl ⟨hn, fun H1 s1 => ⟨true, hex, fun _ a1 ha1 => ?_, fun z => nomatch z⟩⟩⟩
  refine ⟨_, rfl, M, x, d, rfl, hd.stay (Same.go s1), hb, hw, .inl ⟨hn, fun H2 s2 => ⟨true, hex, fun _ a2 ha2 => ?_, fun z => nomatch z⟩⟩⟩
  exact k H2 (s1.trans s2)
end
section
variable {P : Program} {w : World} {K : PySem.W.Frag} {mg : Str → Option Value} {base : Heap}
theorem sized_dict0 : Sized 4 4 (.dict []) := ⟨by simp only [PyData.leavesShort, PyData.leavesShortKv], by simp only [PyData.showable, PyData.showableKv], by simp only [PyData.depth, PyData.depthKv]; omega, by simp only [PyData.bulk, PyData.bulkKv]; omega⟩
theorem le_sz {n : Nat} (h : n ≤ 100000) : n ≤ sizeLine := Nat.le_of_lt (lt_small h)
theorem sized_one {m h : Nat} {a : PyData} (s : Sized m h a) : Sized (m + 1) (h + 1) (.tuple [a]) := by
  have := sized_tup (m := m) (h := h) (ds := [a]) (fun d hd => by rw [List.mem_singleton.mp hd]; exact s)
  exact this.more (by simp) (Nat.le_refl _)
def spAnyRow (K : PySem.W.Frag) : Sp := fun vs H Q _ => ∃ (h d : Addr) (ds : List Int) (n : Nat) (x : V) (D : Int) (ls : List Int) (W B : List (List (List Int))), vs = [.ref h, x] ∧ Hand H h d ds n ∧ Dt K H x (taskD D ls W B) ∧ GoodS ls W ∧ GoodS ls B ∧ ls.length ≤ 4 ∧ (∀ m ∈ ls, 1 ≤ m ∧ m ≤ 60) ∧
  ∀ (ra : Addr) (H' : Hp) (n' : Nat) (r : List Int), Go (· = h) H H' → Hand H' h d ds n' → SqT K H' ra (r.map V.int) → isRow ls (tupI r) = true → Q (.ref ra) H'
set_option maxHeartbeats 1000000 in
theorem ok_anyrow {f : Addr} {fd : FuncData} (B : Blt mg) (g_law_take : Has P w K mg base CX0 1 "_law_take" ["hand", "many"] (spTake K)) (F : Fun K "_law_any_row" "_law_any_row" s_law_any_row f fd) : FnOk P w K mg base CX0 2 f fd ["hand", "task"] (spAnyRow K) := by
  have sc : FnScope ["hand", "task", "sides", "rows", "many"] ["hand", "task"] (defScope s_law_any_row) := ⟨rfl, rfl, rfl, by decide +kernel, rfl, by decide +kernel, by decide +kernel⟩
  refine F.ok sc (fun vs H Q E h => ?_) (fun cdv A outer s H vs Q E hr h => ?_)
  · obtain ⟨_, _, _, _, _, _, _, _, _, rfl, _⟩ := h
    rfl
  obtain ⟨h, d, ds, n0, x, D, ls, W, Bl, rfl, hh, hT, gW, gB, l4, lok, k⟩ := h
  refine ⟨_, (pss_cons (ps_set (i := 2) sc.nd rfl (Or.inl rfl) (pe_op op_plus (pe_ix ix_tup (pv 1) pe_int (fun _ _ => rfl)) (pe_ix ix_tup (pv 1) pe_int (fun _ _ => rfl))))
    (pss_cons (ps_set (i := 3) sc.nd rfl (Or.inl rfl) (pe_ix ix_tup (pv 2) (pc g_law_take hr (pa_cons (pv 0) (pa_cons (pe_callB call_len_seq (by rfl) B.len (by decide +kernel) (pa_cons (pv 2) pa_nil)) pa_nil))) (fun _ _ => rfl)))
    (pss_cons (ps_if (PW.pt (pw_and (pt_cmpR op_gt (pe_callB call_len_seq (by rfl) B.len (by decide +kernel) (pa_cons (pv 3) pa_nil)) pe_int (nomark _)) (pw_and1 (pt_cmpR op_gt (pc g_law_take hr (pa_cons (pv 0) (pa_cons pe_int pa_nil))) pe_int (nomark _)))))
      (pss_one (ps_ret (pe_ix ix_tup (pv 3) (pc g_law_take hr (pa_cons (pv 0) (pa_cons (pe_callB call_len_seq (by rfl) B.len (by decide +kernel) (pa_cons (pv 3) pa_nil)) pa_nil))) (fun _ _ => rfl))))
      pss_nil)
    (pss_one (ps_ret (pe_callTy call_tuple_of (by rfl) B.tuple (by decide +kernel) (pa_cons (pe_lc (own := [("many", 4)]) (g := gName 4) (tt := tYes) rfl sc.nd (pi_tup (pe_ix ix_tup (pv 1) pe_int (fun _ _ => rfl))) (blkOk_by (N := ["hand", "task", "sides", "rows", "many"]) (sc := defScope s_law_any_row) (by decide +kernel)) (fun _ _ _ _ _ => pg_name (i := 4) sc.nd rfl (Or.inl rfl)) (fun _ _ _ _ _ => pts_nil) (fun _ _ _ _ _ => (pc g_law_take hr (pa_cons (pv 0) (pa_cons (pv 4) pa_nil))))) pa_nil))))))), ?_⟩
  obtain ⟨a, la, wa, ba, wxs, bxs, rfl, ha, hla, hwa, hwx, hba, hbx⟩ := task_at hT
  have lw : wxs.length = W.length := by rw [hwx.len, List.length_map]
  have lb : bxs.length = Bl.length := by rw [hbx.len, List.length_map]
  have w14 := And.intro gW.1 gW.2.1
  have b14 := And.intro gB.1 gB.2.1
  refine ⟨_, rfl, a, _, _, _, rfl, rfl, ha, at_of (j := 3) rfl rfl, _, rfl, a, _, _, _, rfl, rfl, ha, at_of (j := 4) rfl rfl, wa, ba, _, _, rfl, rfl, hwa, hba, le_sz (by omega), fun p H1 s1 hp => ?_⟩
  have hh1 := hh.same s1
  have all1 : DtAll K H1 (wxs ++ bxs) ((W ++ Bl).map fun rows => PyData.tuple (rows.map tupI)) := by
    rw [List.map_append]
    exact (hwx.stay s1.tups).app (hbx.stay s1.tups)
  have lall : (wxs ++ bxs).length = (W ++ Bl).length := by rw [List.length_append, List.length_append]; omega
  have lpos : 2 ≤ (W ++ Bl).length ∧ (W ++ Bl).length ≤ 8 := by rw [List.length_append]; omega
  refine ⟨_, rfl, _, rfl, _, rfl, p, _, rfl, .inr hp, h, d, ds, n0, _, rfl, hh1.1, hh1.2, by omega, by omega, fun q q0 q1 => ?_⟩
  have hh2 := hh1.next
  have g2 := (Same.go (M := (· = h)) s1).trans hh1.go
  obtain ⟨v, hv, hvd⟩ := at_sideT (all1.stay hh1.tups) (show q.toNat < (W ++ Bl).length by omega)
  obtain ⟨rows, erows⟩ : ∃ z, z = (W ++ Bl).getD q.toNat [] := ⟨_, rfl⟩
  have gr : Good ls rows := by
    have hq : q.toNat < (W ++ Bl).length := by omega
    have e : (W ++ Bl).getD q.toNat [] = (W ++ Bl)[q.toNat] := by
      rw [List.getD_eq_getElem?_getD, List.getElem?_eq_getElem hq]
      rfl
    rw [erows, e]
    rcases List.mem_append.mp (List.getElem_mem hq) with z | z
    · exact gW.2.2 _ z
    · exact gB.2.2 _ z
  rw [← erows] at hvd
  obtain ⟨ra, rxs, rfl, hra, hrx⟩ : ∃ ra rxs, v = .ref ra ∧ SqT K _ ra rxs ∧ DtAll K _ rxs (rows.map tupI) := by
    cases hvd with
    | tup h1 h2 => exact ⟨_, _, rfl, h1, h2⟩
  have lr : rxs.length = rows.length := by rw [hrx.len, List.length_map]
  refine ⟨p, _, _, _, rfl, rfl, hh1.tups.seq hp, at_of (j := q.toNat) (by omega) hv, ?_⟩
  refine ⟨_, rfl, ra, _, rfl, .inr hra, _, _, rfl, rfl, _, rfl, ?_⟩
  refine ite2 (fun c => ?_) (fun c => ?_)
  · have c1 := dec_t c
    refine ⟨_, rfl, h, d, ds, _, 4, rfl, hh2.1, hh2.2, by omega, by omega, fun z z0 z4 => ⟨_, _, rfl, rfl, _, rfl, ?_⟩⟩
    have hz := hh2.next
    have gz := g2.trans hh2.go
    refine ite2 (fun c => ?_) (fun c => ?_)
    · refine ⟨_, rfl, _, rfl, _, rfl, ra, _, rfl, .inr (hh2.tups.seq hra), h, d, ds, _, _, rfl, hz.1, hz.2, by omega, by have := gr.1; omega, fun q2 q20 q21 => ?_⟩
      have hq2 : q2.toNat < rows.length := by omega
      obtain ⟨v2, hv2, hd2⟩ := (hrx.stay (hh2.tups.trans hz.tups)).at (show (rows.map tupI)[q2.toNat]? = some (tupI rows[q2.toNat]) by rw [List.getElem?_map, List.getElem?_eq_getElem hq2]; rfl)
      obtain ⟨ri, rfl, hri⟩ : ∃ ri, v2 = .ref ri ∧ SqT K _ ri (rows[q2.toNat].map V.int) := by
        cases hd2 with
        | tup h1 h2 => exact ⟨_, rfl, by rw [← ints_of h2]; exact h1⟩
      refine ⟨ra, _, _, _, rfl, rfl, (hh2.tups.trans hz.tups).seq hra, at_of (j := q2.toNat) (by omega) hv2, ?_⟩
      exact k ri _ _ rows[q2.toNat] (gz.trans hz.go) hz.next hri (gr.2.1 _ (List.getElem_mem hq2))
    ·
      refine ⟨_, rfl, a, _, _, _, rfl, rfl, gz.seqT ha, at_of (j := 2) rfl rfl, la, rfl, ⟨_, gz.seqT hla⟩, fun q2 hq2 => ?_⟩
      obtain ⟨nqh, nqd⟩ := hand_out hz hq2
      refine itt_walk (K := K) (a := la) (xs := ls.map V.int) (fun j H5 => ∃ (n1 : Nat) (ns : List Int), Hand H5 h d ds n1 ∧ AccG (· = h) K _ q2 (ns.map PyData.int) H5 ∧ isRow (ls.take j) (tupI ns) = true) ⟨_, [], hz.new hq2 _, AccG.start hq2, row_nil⟩ (fun j H5 _ ⟨_, _, _, b, _⟩ => b.go.seqT (gz.seqT hla)) ?_ ?_
      · rintro j y H5 hj ⟨n1, ns, hh5, b, rw1⟩
        obtain ⟨m, hm, rfl⟩ := item_of hj
        have mok := lok m (List.mem_of_getElem? hm)
        refine ⟨rfl, ?_⟩
        refine ⟨_, rfl, _, rfl, h, d, ds, n1, m, rfl, hh5.1, hh5.2, by omega, by omega, fun z z0 zm => ?_⟩
        obtain ⟨acc, e, el, b2⟩ := (b.step nqh hh5.go).push (.int z)
        have nl : ns.length = (ls.take j).length := row_len rw1
        refine ⟨acc, e, lt_small ?_, n1 + 1, ns ++ [z], hh5.next.off nqh nqd _, ?_, ?_⟩
        · rw [el, List.length_map, nl, List.length_take]
          omega
        · rw [List.map_append]
          exact b2
        · rw [take_more hm, row_snoc nl, rw1, Bool.true_and]
          show (decide ((0 : Int) ≤ z) && decide (z ≤ m - 1)) = true
          rw [decide_eq_true z0, decide_eq_true (by omega)]
          rfl
      rintro H5 ⟨n1, ns, hh5, b, rw1⟩
      rw [List.length_map, List.take_of_length_le (Nat.le_refl _)] at rw1
      obtain ⟨acc, eacc, dacc⟩ := b.ex
      have ea : acc = ns.map V.int := ints_of dacc
      rw [ea] at eacc
      refine ⟨q2, _, rfl, .inl ⟨SqL.of eacc, fun t ht => ?_⟩⟩
      have st := same_new ht (.tup (ns.map V.int))
      exact k t _ n1 ns (gz.trans (b.go.trans (Same.go st))) (hh5.same st) (SqT.of upd_same) rw1
  · have hz := hh2
    have gz := g2
    refine ⟨_, rfl, a, _, _, _, rfl, rfl, gz.seqT ha, at_of (j := 2) rfl rfl, la, rfl, ⟨_, gz.seqT hla⟩, fun q2 hq2 => ?_⟩
    obtain ⟨nqh, nqd⟩ := hand_out hz hq2
    refine itt_walk (K := K) (a := la) (xs := ls.map V.int) (fun j H5 => ∃ (n1 : Nat) (ns : List Int), Hand H5 h d ds n1 ∧ AccG (· = h) K _ q2 (ns.map PyData.int) H5 ∧ isRow (ls.take j) (tupI ns) = true) ⟨_, [], hz.new hq2 _, AccG.start hq2, row_nil⟩ (fun j H5 _ ⟨_, _, _, b, _⟩ => b.go.seqT (gz.seqT hla)) ?_ ?_
    · rintro j y H5 hj ⟨n1, ns, hh5, b, rw1⟩
      obtain ⟨m, hm, rfl⟩ := item_of hj
      have mok := lok m (List.mem_of_getElem? hm)
      refine ⟨rfl, ?_⟩
      refine ⟨_, rfl, _, rfl, h, d, ds, n1, m, rfl, hh5.1, hh5.2, by omega, by omega, fun z z0 zm => ?_⟩
      obtain ⟨acc, e, el, b2⟩ := (b.step nqh hh5.go).push (.int z)
      have nl : ns.length = (ls.take j).length := row_len rw1
      refine ⟨acc, e, lt_small ?_, n1 + 1, ns ++ [z], hh5.next.off nqh nqd _, ?_, ?_⟩
      · rw [el, List.length_map, nl, List.length_take]
        omega
      · rw [List.map_append]
        exact b2
      · rw [take_more hm, row_snoc nl, rw1, Bool.true_and]
        show (decide ((0 : Int) ≤ z) && decide (z ≤ m - 1)) = true
        rw [decide_eq_true z0, decide_eq_true (by omega)]
        rfl
    rintro H5 ⟨n1, ns, hh5, b, rw1⟩
    rw [List.length_map, List.take_of_length_le (Nat.le_refl _)] at rw1
    obtain ⟨acc, eacc, dacc⟩ := b.ex
    have ea : acc = ns.map V.int := ints_of dacc
    rw [ea] at eacc
    refine ⟨q2, _, rfl, .inl ⟨SqL.of eacc, fun t ht => ?_⟩⟩
    have st := same_new ht (.tup (ns.map V.int))
    exact k t _ n1 ns (gz.trans (b.go.trans (Same.go st))) (hh5.same st) (SqT.of upd_same) rw1

theorem dn_dict0 {M : Addr → Prop} {H : Hp} {a : Addr} (n : ¬ M a) (e : H a = some (.dK [])) : Dn M K H (.ref a) (.dict []) := Dn.dct (kvs := []) (ds := []) n e .nil
/-- what the law hands in as a number, as a side -/
def spNumV (K : PySem.W.Frag) : Sp := fun vs H Q _ => ∃ (h d : Addr) (ds : List Int) (n : Nat) (m : Int), vs = [.ref h, .int m] ∧ Hand H h d ds n ∧ 1 ≤ m ∧ m ≤ 4 ∧ ∀ (v : V) (H' : Hp) (n' : Nat) (e : PyData), Go (· = h) H H' → Hand H' h d ds n' → Dn (· = h) K H' v e → Sized 100 10 e → Q v H'
theorem ok_numv {f : Addr} {fd : FuncData} (B : Blt mg) (g_law_take : Has P w K mg base CX0 1 "_law_take" ["hand", "many"] (spTake K)) (F : Fun K "_law_number_value" "_law_number_value" s_law_number_value f fd) : FnOk P w K mg base CX0 2 f fd ["hand", "many"] (spNumV K) := by
  have sc : FnScope ["hand", "many", "shape"] ["hand", "many"] (defScope s_law_number_value) := ⟨rfl, rfl, rfl, by decide +kernel, rfl, by decide +kernel, by decide +kernel⟩
  refine F.ok sc (fun vs H Q E h => ?_) (fun cdv A outer s H vs Q E hr h => ?_)
  · obtain ⟨_, _, _, _, _, rfl, _⟩ := h
    rfl
  obtain ⟨h, d, ds, n0, m, rfl, hh, m1, m4, k⟩ := h
  refine ⟨_, (pss_cons (ps_set (i := 2) sc.nd rfl (Or.inl rfl) (pc g_law_take hr (pa_cons (pv 0) (pa_cons pe_int pa_nil))))
    (pss_cons (ps_if (pt_cmpR op_eqi (pv 2) pe_int (nomark _))
      (pss_one (ps_ret (pe_ix ix_list (pe_lst (pa_cons (pe_un un_neg pe_int) (pa_cons (pv 1) (pa_cons (pe_op op_add (pv 1) pe_int) (pa_cons pe_non (pa_cons pe_str (pa_cons (pe_tup (pa_cons pe_int pa_nil)) (pa_cons (pe_lst (pa_cons pe_int pa_nil)) (pa_cons pe_dnewK pa_nil))))))))) (pc g_law_take hr (pa_cons (pv 0) (pa_cons pe_int pa_nil))) (fun _ _ => rfl))))
      pss_nil)
    (pss_cons (ps_if (pt_cmpR op_eqi (pv 2) pe_int (nomark _))
      (pss_one (ps_ret (pe_cmpR op_eqi (pc g_law_take hr (pa_cons (pv 0) (pa_cons pe_int pa_nil))) pe_int (nomark _))))
      pss_nil)
    (pss_one (ps_ret (pc g_law_take hr (pa_cons (pv 0) (pa_cons (pv 1) pa_nil)))))))), ?_⟩
  have small : ∀ i : Int, -100 ≤ i → i ≤ 100 → Sized 100 10 (.int i) := fun i a b => (sized_int (Nat.lt_of_lt_of_le (show i.natAbs < 200 by omega) (by decide))).more (by decide) (by decide)
  refine ⟨_, rfl, h, d, ds, n0, 8, rfl, hh.1, hh.2, by omega, by omega, fun s0 a0 a1 => ?_⟩
  have hh1 := hh.next
  have g1 := hh.go
  refine ⟨_, rfl, _, _, rfl, rfl, _, rfl, ?_⟩
  refine ite2 (fun _ => ?_) (fun _ => ?_)
  · refine ⟨_, rfl, _, rfl, _, rfl, _, _, rfl, rfl, (by show 1 ≤ sizeLine; decide), fun t ht => ⟨(by show 1 ≤ sizeLine; decide), fun l hl => ?_⟩⟩
    have t1 := same_new ht (.tup [.int 0])
    have t2 := same_new hl (.lst [.int 0])
    have b2 := (hh1.same t1).same t2
    have nl : ¬ l = h := (ne_of_none (hh1.same t1).1 hl).symm
    intro kd hkd
    have t3 := same_new hkd (.dK [])
    have b3 := b2.same t3
    have nk : ¬ kd = h := (ne_of_none b2.1 hkd).symm
    refine ⟨(by show 8 ≤ sizeLine; decide), fun L hL => ?_⟩
    have t4 := same_new hL (.lst [.int (-1), .int m, .int (m + 7), .non, .str "0", .ref t, .ref l, .ref kd])
    have b4 := b3.same t4
    have nL : ¬ L = h := (ne_of_none b3.1 hL).symm
    have row : DnAll (· = h) K _ [.int (-1), .int m, .int (m + 7), .non, .str "0", .ref t, .ref l, .ref kd] [.int (-1), .int m, .int (m + 7), .none, .str "0", .tuple [.int 0], .list [.int 0], .dict []] :=
      .cons (.int _) (.cons (.int _) (.cons (.int _) (.cons .non (.cons (.str _) (.cons (.tup (((t2.trans t3).trans t4).seqT (SqT.of upd_same)) (.cons (.int 0) .nil)) (.cons (.lst nl ((t3.trans t4) _ _ upd_same) (.cons (.int 0) .nil)) (.cons (dn_dict0 (M := (· = h)) nk (t4 _ _ upd_same)) .nil)))))))
    refine ⟨_, rfl, h, d, ds, _, 8, rfl, b4.1, b4.2, by omega, by omega, fun q q0 q1 => ?_⟩
    obtain ⟨y, e', hy, hm, hyd⟩ := (row.stay b4.go).pick (i := q) (by show -((8 : Nat) : Int) ≤ q; omega) (by show q < ((8 : Nat) : Int); omega)
    refine ⟨L, _, _, y, rfl, rfl, SqL.of (by rw [upd_ne nL, upd_same]), hy, ?_⟩
    refine k y _ _ e' ((g1.trans (((t1.trans t2).trans t3).trans t4).go).trans b4.go) b4.next hyd ?_
    simp only [List.mem_cons, List.not_mem_nil, or_false] at hm
    rcases hm with rfl | rfl | rfl | rfl | rfl | rfl | rfl | rfl
    · exact small _ (by decide) (by decide)
    · exact small _ (by omega) (by omega)
    · exact small _ (by omega) (by omega)
    · exact sized_non.more (by decide) (by decide)
    · exact (sized_str "0" (by decide) 1 (by decide)).more (by decide) (by decide)
    · exact (sized_one (sized_int (i := 0) (by decide))).more (by decide) (by decide)
    · exact (sized_lst (m := 0) (h := 0) (ds := [.int 0]) (fun d hd => by rw [List.mem_singleton.mp hd]; exact sized_int (by decide))).more (by decide) (by decide)
    · exact sized_dict0.more (by decide) (by decide)
  refine ⟨_, rfl, _, _, rfl, rfl, _, rfl, ?_⟩
  refine ite2 (fun _ => ?_) (fun _ => ?_)
  · refine ⟨_, rfl, h, d, ds, _, 2, rfl, hh1.1, hh1.2, by omega, by omega, fun q q0 q1 => ⟨_, _, rfl, rfl, ?_⟩⟩
    exact k _ _ _ _ (g1.trans hh1.go) hh1.next (.bl _) ((sized_bl _).more (by decide) (by decide))
  · refine ⟨_, rfl, _, rfl, h, d, ds, _, m, rfl, hh1.1, hh1.2, by omega, by omega, fun q q0 q1 => ?_⟩
    exact k _ _ _ _ (g1.trans hh1.go) hh1.next (.int q) (small q (by omega) (by omega))
def spSideV (K : PySem.W.Frag) : Sp := fun vs H Q _ => ∃ (h d : Addr) (ds : List Int) (n : Nat), vs = [.ref h] ∧ Hand H h d ds n ∧ ∀ (v : V) (H' : Hp) (n' : Nat) (e : PyData), Go (· = h) H H' → Hand H' h d ds n' → Dn (· = h) K H' v e → Sized 100 10 e → SeqAt.shaped e = true → Q v H'
theorem ok_sidev {f : Addr} {fd : FuncData} (B : Blt mg) (g_law_take : Has P w K mg base CX0 1 "_law_take" ["hand", "many"] (spTake K)) (F : Fun K "_law_side_value" "_law_side_value" s_law_side_value f fd) : FnOk P w K mg base CX0 2 f fd ["hand"] (spSideV K) := by
  have sc : FnScope ["hand", "shape"] ["hand"] (defScope s_law_side_value) := ⟨rfl, rfl, rfl, by decide +kernel, rfl, by decide +kernel, by decide +kernel⟩
  refine F.ok sc (fun vs H Q E h => ?_) (fun cdv A outer s H vs Q E hr h => ?_)
  · obtain ⟨_, _, _, _, rfl, _⟩ := h
    rfl
  obtain ⟨h, d, ds, n0, rfl, hh, k⟩ := h
  refine ⟨_, (pss_cons (ps_set (i := 1) sc.nd rfl (Or.inl rfl) (pc g_law_take hr (pa_cons (pv 0) (pa_cons pe_int pa_nil))))
    (pss_cons (ps_if (pt_cmpR op_eqi (pv 1) pe_int (nomark _))
      (pss_one (ps_ret (pe_ix ix_list (pe_lst (pa_cons pe_str (pa_cons pe_str (pa_cons pe_str (pa_cons pe_non (pa_cons pe_bl (pa_cons pe_int (pa_cons (pe_tup (pa_cons pe_str pa_nil)) (pa_cons (pe_lst (pa_cons pe_str pa_nil)) pa_nil))))))))) (pc g_law_take hr (pa_cons (pv 0) (pa_cons pe_int pa_nil))) (fun _ _ => rfl))))
      pss_nil)
    (pss_one (ps_ret (pe_ix ix_list (pe_lst (pa_cons pe_str (pa_cons pe_str pa_nil))) (pe_op op_mod (pe_callTy call_int1 (by rfl) B.int (by decide +kernel) (pa_cons (pv 1) pa_nil)) pe_int) (fun _ _ => rfl)))))), ?_⟩
  refine ⟨_, rfl, h, d, ds, n0, 10, rfl, hh.1, hh.2, by omega, by omega, fun s0 a0 a1 => ?_⟩
  have hh1 := hh.next
  have g1 := hh.go
  have str10 : ∀ (x : Str) (a : (x.cps.toList.all fun c => decide (c < 16 ^ 8)) = true) (n : x.cps.size ≤ 50), Sized 50 0 (.str x) := fun x a n => sized_str x a 50 n
  refine ⟨_, rfl, _, _, rfl, rfl, _, rfl, ?_⟩
  refine ite2 (fun _ => ?_) (fun _ => ?_)
  · refine ⟨(by show 1 ≤ sizeLine; decide), fun t ht => ⟨(by show 1 ≤ sizeLine; decide), fun l hl => ⟨(by show 8 ≤ sizeLine; decide), fun L hL => ?_⟩⟩⟩
    have t1 := same_new ht (.tup [.str "white"])
    have t2 := same_new hl (.lst [.str "black"])
    have b2 := (hh1.same t1).same t2
    have nl : ¬ l = h := (ne_of_none (hh1.same t1).1 hl).symm
    have t4 := same_new hL (.lst [.str "White", .str "", .str "black ", .non, .bl true, .int 0, .ref t, .ref l])
    have b4 := b2.same t4
    have nL : ¬ L = h := (ne_of_none b2.1 hL).symm
    have row : DnAll (· = h) K _ [.str "White", .str "", .str "black ", .non, .bl true, .int 0, .ref t, .ref l] [.str "White", .str "", .str "black ", .none, .bool true, .int 0, .tuple [.str "white"], .list [.str "black"]] :=
      .cons (.str _) (.cons (.str _) (.cons (.str _) (.cons .non (.cons (.bl _) (.cons (.int _) (.cons (.tup ((t2.trans t4).seqT (SqT.of upd_same)) (.cons (.str _) .nil)) (.cons (.lst nl (t4 _ _ upd_same) (.cons (.str _) .nil)) .nil)))))))
    refine ⟨_, rfl, h, d, ds, _, 8, rfl, b4.1, b4.2, by omega, by omega, fun q q0 q1 => ?_⟩
    obtain ⟨y, e', hy, hm, hyd⟩ := (row.stay b4.go).pick (i := q) (by show -((8 : Nat) : Int) ≤ q; omega) (by show q < ((8 : Nat) : Int); omega)
    refine ⟨L, _, _, y, rfl, rfl, SqL.of (by rw [upd_ne nL, upd_same]), hy, ?_⟩
    have two : Sized 100 10 e' ∧ SeqAt.shaped e' = true := by
      simp only [List.mem_cons, List.not_mem_nil, or_false] at hm
      rcases hm with rfl | rfl | rfl | rfl | rfl | rfl | rfl | rfl
      · exact ⟨(str10 "White" (by decide) (by decide)).more (by decide) (by decide), by decide +kernel⟩
      · exact ⟨(str10 "" (by decide) (by decide)).more (by decide) (by decide), by decide +kernel⟩
      · exact ⟨(str10 "black " (by decide) (by decide)).more (by decide) (by decide), by decide +kernel⟩
      · exact ⟨sized_non.more (by decide) (by decide), by decide +kernel⟩
      · exact ⟨(sized_bl _).more (by decide) (by decide), by decide +kernel⟩
      · exact ⟨(sized_int (i := 0) (by decide)).more (by decide) (by decide), by decide +kernel⟩
      · exact ⟨(sized_one (str10 "white" (by decide) (by decide))).more (by decide) (by decide), by decide +kernel⟩
      · exact ⟨(sized_lst (m := 50) (h := 0) (ds := [.str "black"]) (fun d hd => by rw [List.mem_singleton.mp hd]; exact str10 "black" (by decide) (by decide))).more (by decide) (by decide), by decide +kernel⟩
    exact k y _ _ e' ((g1.trans ((t1.trans t2).trans t4).go).trans b4.go) b4.next hyd two.1 two.2
  · refine ⟨(by show 2 ≤ sizeLine; decide), fun L hL => ?_⟩
    have t4 := same_new hL (.lst [.str "white", .str "black"])
    have row : DnAll (· = h) K (upd (upd H h (.lst [.ref d, .int ((n0 + 1 : Nat) : Int)])) L (.lst [.str "white", .str "black"])) [.str "white", .str "black"] [.str "white", .str "black"] := .cons (.str _) (.cons (.str _) .nil)
    have m0 : 0 ≤ s0 % 2 := Int.emod_nonneg _ (by decide)
    have m1 : s0 % 2 < 2 := Int.emod_lt_of_pos _ (by decide)
    obtain ⟨y, e', hy, hm, hyd⟩ := row.pick (i := s0 % 2) (by show -((2 : Nat) : Int) ≤ s0 % 2; omega) (by show s0 % 2 < ((2 : Nat) : Int); omega)
    refine ⟨_, rfl, .inl ⟨_, rfl, _, _, rfl, rfl, (by show (0 : Int) < 2; decide), L, _, _, y, rfl, rfl, SqL.of upd_same, hy, ?_⟩⟩
    have two : Sized 100 10 e' ∧ SeqAt.shaped e' = true := by
      simp only [List.mem_cons, List.not_mem_nil, or_false] at hm
      rcases hm with rfl | rfl
      · exact ⟨(str10 "white" (by decide) (by decide)).more (by decide) (by decide), by decide +kernel⟩
      · exact ⟨(str10 "black" (by decide) (by decide)).more (by decide) (by decide), by decide +kernel⟩
    exact k y _ _ e' (g1.trans t4.go) (hh1.same t4) hyd two.1 two.2
end
section
variable {P : Program} {w : World} {K : PySem.W.Frag} {mg : Str → Option Value} {base : Heap}
theorem row_small {ls r : List Int} (lok : ∀ m ∈ ls, 1 ≤ m ∧ m ≤ 60) (h : isRow ls (tupI r) = true) : ∀ x ∈ r, 0 ≤ x ∧ x ≤ 59 := by
  have h' : (decide ((r.map PyData.int).length = ls.length) && ((r.map PyData.int).zip ls).all fun p => isNum p.1 0 (p.2 - 1)) = true := h
  rw [Bool.and_eq_true, decide_eq_true_eq, List.length_map] at h'
  obtain ⟨e, a⟩ := h'
  clear h
  induction r generalizing ls with
  | nil => exact fun x hx => absurd hx List.not_mem_nil
  | cons y r ih =>
    cases ls with
    | nil => cases e
    | cons l ls =>
      rw [List.map_cons, List.zip_cons_cons, List.all_cons, Bool.and_eq_true] at a
      intro x hx
      rcases List.mem_cons.mp hx with rfl | hx
      · obtain ⟨_, a1, a2⟩ := num_of a.1
        have := lok l List.mem_cons_self
        have e1 : numD (.int x) = x := rfl
        rw [e1] at a1 a2
        show 0 ≤ x ∧ x ≤ 59
        have a2' : x ≤ l - 1 := a2
        omega
      · exact ih (fun m hm => lok m (List.mem_cons_of_mem _ hm)) (by simpa using e) a.2 x hx
open TL in
/-- the text of a row -/
theorem joinL_mem {S : List Nat} : ∀ {ps : List (List Nat)} {x : Nat}, x ∈ joinL S ps → x ∈ S ∨ ∃ p ∈ ps, x ∈ p
  | [], x, h => absurd h List.not_mem_nil
  | [p], x, h => .inr ⟨p, List.mem_cons_self, h⟩
  | p :: q :: r, x, h => by
    rw [joinL, List.mem_append, List.mem_append] at h
    rcases h with h | h | h
    · exact .inr ⟨p, List.mem_cons_self, h⟩
    · exact .inl h
    · rcases joinL_mem h with h | ⟨z, hz, h⟩
      · exact .inl h
      · exact .inr ⟨z, List.mem_cons_of_mem _ hz, h⟩
open TL in
theorem joinL_len {S : List Nat} : ∀ {ps : List (List Nat)} {n : Nat}, (∀ p ∈ ps, p.length ≤ n) → (joinL S ps).length ≤ ps.length * (n + S.length)
  | [], n, _ => by simp [joinL]
  | [p], n, h => by
    have := h p List.mem_cons_self
    simp only [joinL, List.length_cons, List.length_nil]
    omega
  | p :: q :: r, n, h => by
    have h1 := h p List.mem_cons_self
    have h2 := joinL_len (S := S) (ps := q :: r) (n := n) fun z hz => h z (List.mem_cons_of_mem _ hz)
    simp only [joinL, List.length_append]
    rw [List.length_cons (as := q :: r), Nat.succ_mul]
    omega
theorem digits : ∀ i : Nat, i < 60 → ((Str.ofString (toString (i : Int))).cps.toList.all fun c => decide (c < 16 ^ 8)) = true ∧ (Str.ofString (toString (i : Int))).cps.toList.length ≤ 2 := by decide +kernel
theorem sum_two : ∀ l : List Str, (∀ y ∈ l, y.length ≤ 2) → (l.map (·.length)).sum ≤ l.length * 2
  | [], _ => by simp
  | y :: l, h => by
    have h1 := h y List.mem_cons_self
    have h2 := sum_two l fun z hz => h z (List.mem_cons_of_mem _ hz)
    simp only [List.map_cons, List.sum_cons, List.length_cons]
    omega
open TL in
theorem sized_join {r : List Int} (h : ∀ x ∈ r, 0 ≤ x ∧ x ≤ 59) (l : r.length ≤ 10) : Sized 50 0 (.str (Txt.join "," (r.map fun x => Str.ofString (toString x)))) := by
  have e : (Txt.join "," (r.map fun x => Str.ofString (toString x))).cps.toList = joinL ("," : Str).cps.toList ((r.map fun x => Str.ofString (toString x)).map fun y => y.cps.toList) := by
    rw [join_eq]
    exact tl_join _ _
  refine (sized_str _ ?_ 50 ?_).more (Nat.le_refl _) (Nat.le_refl _)
  · rw [e, List.all_eq_true]
    intro c hc
    rcases joinL_mem hc with hc | ⟨p, hp, hc⟩
    · have : ∀ c ∈ ("," : Str).cps.toList, decide (c < 16 ^ 8) = true := by decide
      exact this c hc
    · rw [List.map_map, List.mem_map] at hp
      obtain ⟨x, hx, rfl⟩ := hp
      obtain ⟨x0, x1⟩ := h x hx
      have d := (digits x.toNat (by omega)).1
      rw [Int.toNat_of_nonneg x0] at d
      exact List.all_eq_true.mp d c hc
  · have q := joinL_len (S := ("," : Str).cps.toList) (ps := (r.map fun x => Str.ofString (toString x)).map fun y => y.cps.toList) (n := 2) fun p hp => by
      rw [List.map_map, List.mem_map] at hp
      obtain ⟨x, hx, rfl⟩ := hp
      obtain ⟨x0, x1⟩ := h x hx
      have d := (digits x.toNat (by omega)).2
      rw [Int.toNat_of_nonneg x0] at d
      exact d
    rw [← e, List.length_map, List.length_map] at q
    have q2 : (("," : Str).cps.toList).length = 1 := by decide
    rw [q2] at q
    rw [← Array.length_toList]
    omega
def spRowV (K : PySem.W.Frag) : Sp := fun vs H Q _ => ∃ (h d : Addr) (ds : List Int) (n : Nat) (x : V) (D : Int) (ls : List Int) (W B : List (List (List Int))), vs = [.ref h, x] ∧ Hand H h d ds n ∧ Dt K H x (taskD D ls W B) ∧ GoodS ls W ∧ GoodS ls B ∧ 1 ≤ ls.length ∧ ls.length ≤ 4 ∧ (∀ m ∈ ls, 1 ≤ m ∧ m ≤ 60) ∧
  ∀ (v : V) (H' : Hp) (n' : Nat) (e : PyData), Go (· = h) H H' → Hand H' h d ds n' → Dn (· = h) K H' v e → Sized 1000 10 e → Q v H'
set_option maxHeartbeats 2000000 in
theorem ok_rowv {f : Addr} {fd : FuncData} (B : Blt mg) (g_law_take : Has P w K mg base CX0 1 "_law_take" ["hand", "many"] (spTake K)) (g_law_any_row : Has P w K mg base CX0 2 "_law_any_row" ["hand", "task"] (spAnyRow K)) (F : Fun K "_law_row_value" "_law_row_value" s_law_row_value f fd) : FnOk P w K mg base CX0 3 f fd ["hand", "task"] (spRowV K) := by
  have sc : FnScope ["hand", "task", "row", "shape", "at", "label"] ["hand", "task"] (defScope s_law_row_value) := ⟨rfl, rfl, rfl, by decide +kernel, rfl, by decide +kernel, by decide +kernel⟩
  refine F.ok sc (fun vs H Q E h => ?_) (fun cdv A outer s H vs Q E hr h => ?_)
  · obtain ⟨_, _, _, _, _, _, _, _, _, rfl, _⟩ := h
    rfl
  obtain ⟨h, d, ds, n0, x, D, ls, W, Bl, rfl, hh, hT, gW, gB, l1, l4, lok, k⟩ := h
  refine ⟨_, (pss_cons (ps_set (i := 2) sc.nd rfl (Or.inl rfl) (pc g_law_any_row hr (pa_cons (pv 0) (pa_cons (pv 1) pa_nil))))
    (pss_cons (ps_set (i := 3) sc.nd rfl (Or.inl rfl) (pc g_law_take hr (pa_cons (pv 0) (pa_cons pe_int pa_nil))))
    (pss_cons (ps_set (i := 4) sc.nd rfl (Or.inl rfl) (pc g_law_take hr (pa_cons (pv 0) (pa_cons (pe_callB call_len_seq (by rfl) B.len (by decide +kernel) (pa_cons (pv 2) pa_nil)) pa_nil))))
    (pss_cons (ps_if (pt_cmpR op_eqi (pv 3) pe_int (nomark _))
      (pss_one (ps_ret (pe_callTy call_list_of (by rfl) B.list (by decide +kernel) (pa_cons (pv 2) pa_nil))))
      pss_nil)
    (pss_cons (ps_if (pt_cmpR op_eqi (pv 3) pe_int (nomark _))
      (pss_one (ps_ret (pe_callTy call_tuple_of (by rfl) B.tuple (by decide +kernel) (pa_cons (pe_lc (own := [("label", 5)]) (g := gName 5) (tt := tYes) rfl sc.nd (pi_tup (pv 2)) (blkOk_by (N := ["hand", "task", "row", "shape", "at", "label"]) (sc := defScope s_law_row_value) (by decide +kernel)) (fun _ _ _ _ _ => pg_name (i := 5) sc.nd rfl (Or.inl rfl)) (fun _ _ _ _ _ => pts_nil) (fun _ _ _ _ _ => (pe_ifExp (pt_cmpR op_lt (pv 5) pe_int (nomark _)) (pe_cmpR op_eqi (pv 5) pe_int (nomark _)) (pv 5)))) pa_nil))))
      pss_nil)
    (pss_cons (ps_if (pt_cmpR op_eqi (pv 3) pe_int (nomark _))
      (pss_one (ps_ret (pe_op op_plus (pe_op op_plus (pe_slice sl_cut (pv 2) po_none (po_some (pv 4))) (pe_tup (pa_cons (pe_cmpR op_eqi (pe_ix ix_tup (pv 2) (pv 4) (fun _ _ => rfl)) pe_int (nomark _)) pa_nil))) (pe_slice sl_cut (pv 2) (po_some (pe_op op_add (pv 4) pe_int)) po_none))))
      pss_nil)
    (pss_cons (ps_if (pt_cmpR op_eqi (pv 3) pe_int (nomark _))
      (pss_one (ps_ret (pe_ix ix_list (pe_lst (pa_cons (pe_slice sl_cut (pv 2) po_none (po_some (pe_un un_neg pe_int))) (pa_cons (pe_op op_plus (pv 2) (pe_tup (pa_cons pe_int pa_nil))) (pa_cons (pe_tup (pa_cons (pv 2) pa_nil)) (pa_cons (pe_tup pa_nil) (pa_cons (pe_op op_plus (pv 2) (pv 2)) pa_nil)))))) (pc g_law_take hr (pa_cons (pv 0) (pa_cons pe_int pa_nil))) (fun _ _ => rfl))))
      pss_nil)
    (pss_cons (ps_if (pt_cmpR op_eqi (pv 3) pe_int (nomark _))
      (pss_one (ps_ret (pe_op op_plus (pe_op op_plus (pe_slice sl_cut (pv 2) po_none (po_some (pv 4))) (pe_tup (pa_cons (pe_ix ix_list (pe_lst (pa_cons (pe_un un_neg pe_int) (pa_cons (pe_ix ix_tup (pe_ix ix_tup (pv 1) pe_int (fun _ _ => rfl)) (pv 4) (fun _ _ => rfl)) (pa_cons pe_non (pa_cons pe_str (pa_cons (pe_tup (pa_cons pe_int pa_nil)) (pa_cons (pe_op op_sub (pe_ix ix_tup (pv 2) (pv 4) (fun _ _ => rfl)) pe_int) pa_nil))))))) (pc g_law_take hr (pa_cons (pv 0) (pa_cons pe_int pa_nil))) (fun _ _ => rfl)) pa_nil))) (pe_slice sl_cut (pv 2) (po_some (pe_op op_add (pv 4) pe_int)) po_none))))
      pss_nil)
    (pss_cons (ps_if (pt_cmpR op_eqi (pv 3) pe_int (nomark _))
      (pss_one (ps_ret (pe_ix ix_list (pe_lst (pa_cons pe_non (pa_cons pe_bl (pa_cons pe_int (pa_cons pe_str (pa_cons pe_dnewK (pa_cons (pe_lst (pa_cons (pv 2) pa_nil)) (pa_cons (pe_bm PySem.F.plainAttrs_str PySem.F.slot_str_join PySem.F.type_str_join mt_join pe_str (pa_cons (pe_lc (own := [("label", 5)]) (g := gName 5) (tt := tYes) rfl sc.nd (pi_tup (pv 2)) (blkOk_by (N := ["hand", "task", "row", "shape", "at", "label"]) (sc := defScope s_law_row_value) (by decide +kernel)) (fun _ _ _ _ _ => pg_name (i := 5) sc.nd rfl (Or.inl rfl)) (fun _ _ _ _ _ => pts_nil) (fun _ _ _ _ _ => (pe_callTy call_str_int (by rfl) B.str (by decide +kernel) (pa_cons (pv 5) pa_nil)))) pa_nil)) pa_nil)))))))) (pc g_law_take hr (pa_cons (pv 0) (pa_cons pe_int pa_nil))) (fun _ _ => rfl))))
      pss_nil)
    (pss_cons (ps_if (pt_cmpR op_eqi (pv 3) pe_int (nomark _))
      (pss_one (ps_ret (pe_op op_plus (pe_op op_plus (pe_slice sl_cut (pv 2) po_none (po_some (pv 4))) (pe_tup (pa_cons (pe_op op_mod (pe_callTy call_int1 (by rfl) B.int (by decide +kernel) (pa_cons (pe_op op_add (pe_ix ix_tup (pv 2) (pv 4) (fun _ _ => rfl)) pe_int) pa_nil)) (pe_ix ix_tup (pe_ix ix_tup (pv 1) pe_int (fun _ _ => rfl)) (pv 4) (fun _ _ => rfl))) pa_nil))) (pe_slice sl_cut (pv 2) (po_some (pe_op op_add (pv 4) pe_int)) po_none))))
      pss_nil)
    (pss_one (ps_ret (pv 2))))))))))))), ?_⟩
  refine ⟨_, rfl, _, rfl, h, d, ds, n0, x, D, ls, W, Bl, rfl, hh, hT, gW, gB, l4, lok, fun ra H1 n1 r g1 hh1 hra hrow => ?_⟩
  have rl := row_len hrow
  have rs := row_small lok hrow
  refine ⟨_, rfl, h, d, ds, n1, 12, rfl, hh1.1, hh1.2, by omega, by omega, fun sh sh0 sh1 => ?_⟩
  have hh2 := hh1.next
  have hra2 := hh1.tups.seq hra
  have rl' : (r.map V.int).length = r.length := List.length_map _
  refine ⟨_, rfl, _, rfl, ra, _, rfl, .inr hra2, h, d, ds, _, _, rfl, hh2.1, hh2.2, by omega, by omega, fun a a0 a1 => ?_⟩
  have hh3 := hh2.next
  have hra3 := hh2.tups.seq hra2
  have g3 := (g1.trans hh1.go).trans hh2.go
  have T3 := hT.stay g3.tups
  rw [rl'] at a1
  have alt : a.toNat < r.length := by omega
  have an : a = ((a.toNat : Nat) : Int) := by omega
  have at0 : atI (r.map V.int) a = some (.int r[a.toNat]) := at_of (j := a.toNat) an (by rw [List.getElem?_map, List.getElem?_eq_getElem alt]; rfl)
  have ra59 := rs r[a.toNat] (List.getElem_mem alt)
  have sI : ∀ i : Int, -1000 ≤ i → i ≤ 1000 → Sized 10 2 (.int i) := fun i q1 q2 => (sized_int (Nat.lt_of_lt_of_le (show i.natAbs < 2000 by omega) (by decide))).more (by decide) (by decide)
  have sR : ∀ z ∈ r.map PyData.int, Sized 10 2 z := fun z hz => by
    obtain ⟨i, hi, rfl⟩ := List.mem_map.mp hz
    have := rs i hi
    exact sI i (by omega) (by omega)
  have fin : ∀ {H2 : Hp} {n2 : Nat} {p : Addr} {xs : List V} {zs : List PyData}, Go (· = h) H H2 → Hand H2 h d ds n2 → SqT K H2 p xs → DtAll K H2 xs zs → zs.length ≤ 9 → (∀ z ∈ zs, Sized 10 2 z) → Q (.ref p) H2 := fun {H2 n2 p xs zs} g hk st da lz all =>
    k _ _ n2 (.tuple zs) g hk (.tup st da.dn) ((sized_tup all).more (Nat.le_trans (Nat.mul_le_mul_right _ lz) (by decide)) (by decide))
  -- 0: list(row)
  refine ⟨_, rfl, _, _, rfl, rfl, _, rfl, ?_⟩
  refine ite2 (fun _ => ?_) (fun _ => ?_)
  · refine ⟨_, rfl, ra, _, rfl, .inr hra3, fun l hl => ?_⟩
    have t1 := same_new hl (.lst (r.map V.int))
    have nl : ¬ l = h := (ne_of_none hh3.1 hl).symm
    exact k _ _ _ (.list (r.map PyData.int)) (g3.trans t1.go) (hh3.same t1) (.lst nl upd_same (DtAll.ints r).dn) ((sized_lst sR).more (Nat.le_trans (Nat.mul_le_mul_right _ (show (r.map PyData.int).length ≤ 9 by rw [List.length_map]; omega)) (by decide)) (by decide))
  -- 1: truths for small labels
  refine ⟨_, rfl, _, _, rfl, rfl, _, rfl, ?_⟩
  refine ite2 (fun _ => ?_) (fun _ => ?_)
  · refine ⟨_, rfl, ra, rfl, ⟨_, hra3⟩, fun q2 hq2 => ?_⟩
    refine itt_walk (K := K) (a := ra) (xs := r.map V.int) (fun j H5 => ∃ zs : List PyData, AccG (· = h) K _ q2 zs H5 ∧ Same _ H5 ∧ zs.length = j ∧ ∀ z ∈ zs, Sized 10 2 z) ⟨[], AccG.start hq2, same_new hq2 _, rfl, fun z hz => absurd hz List.not_mem_nil⟩ (fun j H5 _ ⟨_, b, _⟩ => b.go.seqT hra3) ?_ ?_
    · rintro j y H5 hj ⟨zs, b, s5, zl, sz⟩
      obtain ⟨m, hm, rfl⟩ := item_of hj
      have jl : j < r.length := (List.getElem?_eq_some_iff.mp hm).1
      have m59 := rs m (List.mem_of_getElem? hm)
      refine ⟨rfl, ?_⟩
      refine ⟨_, rfl, _, _, rfl, rfl, _, rfl, ?_⟩
      have more : ∀ {v : V} {e : PyData}, Dt K H5 v e → Sized 10 2 e → ∃ acc, H5 q2 = some (.lst acc) ∧ acc.length < sizeLine ∧ ∃ zs : List PyData, AccG (· = h) K _ q2 zs (upd H5 q2 (.lst (acc ++ [v]))) ∧ Same _ (upd H5 q2 (.lst (acc ++ [v]))) ∧ zs.length = j + 1 ∧ ∀ z ∈ zs, Sized 10 2 z := fun {v e} dv se => by
        obtain ⟨acc, ea, el, b2⟩ := b.push dv
        refine ⟨acc, ea, lt_small (by rw [el]; omega), zs ++ [e], b2, same_own s5 hq2 _, by rw [List.length_append, zl]; rfl, fun z hz => ?_⟩
        rcases List.mem_append.mp hz with hz | hz
        · exact sz z hz
        · rw [List.mem_singleton.mp hz]
          exact se
      refine ite2 (fun _ => ?_) (fun _ => ?_)
      · exact ⟨_, rfl, _, _, rfl, rfl, more (.bl _) ((sized_bl _).more (by decide) (by decide))⟩
      · exact ⟨_, rfl, more (.int m) (sI m (by omega) (by omega))⟩
    rintro H5 ⟨zs, b, s5, zl, sz⟩
    obtain ⟨acc, eacc, dacc⟩ := b.ex
    refine ⟨q2, _, rfl, .inl ⟨SqL.of eacc, fun t ht => ?_⟩⟩
    have st := same_new ht (.tup acc)
    exact fin (g3.trans (s5.trans st).go) (hh3.same (s5.trans st)) (SqT.of upd_same) (dacc.stay st.tups) (by omega) sz
  -- 2: a truth at one place
  refine ⟨_, rfl, _, _, rfl, rfl, _, rfl, ?_⟩
  refine ite2 (fun _ => ?_) (fun _ => ?_)
  · refine ⟨_, rfl, _, rfl, _, rfl, ra, _, rfl, hra3, fun q4 H4 s4 hq4 => ?_⟩
    rw [an, cut_to] at hq4
    refine ⟨_, rfl, _, rfl, ra, _, _, _, rfl, rfl, s4.seqT hra3, at0, _, _, rfl, rfl, (by show 1 ≤ sizeLine; decide), fun t ht => ?_⟩
    have t1 := same_new ht (.tup [.bl (decide (r[a.toNat] = 1))])
    have hq4c := t1.seqT hq4
    have hrac := (s4.trans t1).seqT hra3
    have gc := g3.trans (s4.trans t1).go
    have hc := hh3.same (s4.trans t1)
    obtain ⟨e', ee⟩ : ∃ z, z = PyData.bool (decide (r[a.toNat] = 1)) := ⟨_, rfl⟩
    have hyd : Dt K (upd H4 t (.tup [.bl (decide (r[a.toNat] = 1))])) (.bl (decide (r[a.toNat] = 1))) e' := by
      rw [ee]
      exact .bl _
    have se' : Sized 10 2 e' := by
      rw [ee]
      exact (sized_bl _).more (by decide) (by decide)
    refine ⟨q4, t, _, _, rfl, rfl, hq4c, SqT.of upd_same, le_sz (by rw [List.length_take, List.length_map]; show _ + 1 ≤ _; omega), fun q5 H5 s5 hq5 => ?_⟩
    refine ⟨_, rfl, _, rfl, _, _, rfl, rfl, _, rfl, ra, _, rfl, s5.seqT hrac, fun q6 H6 s6 hq6 => ?_⟩
    rw [show a + 1 = ((a.toNat + 1 : Nat) : Int) by omega, cut_from] at hq6
    refine ⟨q5, q6, _, _, rfl, rfl, s6.seqT hq5, hq6, le_sz (by rw [List.length_append, List.length_take, List.length_drop, List.length_map]; show _ + 1 + _ ≤ _; omega), fun q7 H7 s7 hq7 => ?_⟩
    have ts := (s5.trans s6).trans s7
    have yr := DtAll.ints (K := K) (H := H7) r
    exact fin (zs := (r.map PyData.int).take a.toNat ++ [e'] ++ (r.map PyData.int).drop (a.toNat + 1)) (gc.trans ts.go) (hc.same ts) hq7 (((yr.take _).app (.cons (hyd.stay ts.tups) .nil)).app (yr.drop _)) (by rw [List.length_append, List.length_append, List.length_take, List.length_drop, List.length_map]; show _ + 1 + _ ≤ _; omega) (fun z hz => by
      rcases List.mem_append.mp hz with hz | hz
      · rcases List.mem_append.mp hz with hz | hz
        · exact sR z (List.mem_of_mem_take hz)
        · rw [List.mem_singleton.mp hz]
          exact se'
      · exact sR z (List.mem_of_mem_drop hz))
  -- 3: another length
  refine ⟨_, rfl, _, _, rfl, rfl, _, rfl, ?_⟩
  refine ite2 (fun _ => ?_) (fun _ => ?_)
  · refine ⟨_, rfl, _, rfl, _, rfl, ra, _, rfl, hra3, fun u1 H4 s4 hu1 => ?_⟩
    have cut : cutV (r.map V.int) none (some (-1)) = (r.map V.int).take (r.length - 1) := by
      have ne : r.map V.int ≠ [] := fun z => by
        have : (r.map V.int).length = 0 := by rw [z]; rfl
        omega
      have q := List.dropLast_concat_getLast ne
      rw [← q, cut_last]
      have : (r.map V.int).dropLast = (r.map V.int).take (r.length - 1) := by rw [List.dropLast_eq_take, rl']
      rw [this]
      simp
    rw [cut] at hu1
    refine ⟨_, rfl, (by show 1 ≤ sizeLine; decide), fun t1 ht1 => ?_⟩
    have a1 := same_new ht1 (.tup [.int 0])
    refine ⟨ra, t1, _, _, rfl, rfl, a1.seqT (s4.seqT hra3), SqT.of upd_same, le_sz (by rw [List.length_map]; show _ + 1 ≤ _; omega), fun u2 H5 s5 hu2 => ?_⟩
    refine ⟨_, rfl, (by show 1 ≤ sizeLine; decide), fun u3 hu3 => ⟨(by show 0 ≤ sizeLine; decide), fun u4 hu4 => ?_⟩⟩
    have a3 := same_new hu3 (.tup [.ref ra])
    have a4 := same_new hu4 (.tup [])
    have sA := ((s4.trans a1).trans s5)
    have sB := (sA.trans a3).trans a4
    refine ⟨_, rfl, _, rfl, ra, ra, _, _, rfl, rfl, sB.seqT hra3, sB.seqT hra3, le_sz (by rw [List.length_map]; omega), fun u5 H6 s6 hu5 => ⟨(by show 5 ≤ sizeLine; decide), fun L hL => ?_⟩⟩
    have a5 := same_new hL (.lst [.ref u1, .ref u2, .ref u3, .ref u4, .ref u5])
    have sC := (sB.trans s6).trans a5
    have b4 := hh3.same sC
    have nL : ¬ L = h := (ne_of_none (hh3.same (sB.trans s6)).1 hL).symm
    refine ⟨_, rfl, h, d, ds, _, 5, rfl, b4.1, b4.2, by omega, by omega, fun q q0 q1 => ?_⟩
    have f1 := ((((a1.trans s5).trans (a3.trans a4)).trans s6).trans a5).seqT hu1
    have f2 := (((a3.trans a4).trans s6).trans a5).seqT hu2
    have f3 := ((a4.trans s6).trans a5).seqT (SqT.of (K := K) (upd_same (a := u3) (o := .tup [.ref ra])))
    have f4 := (s6.trans a5).seqT (SqT.of (K := K) (upd_same (a := u4) (o := .tup [])))
    have f5 := a5.seqT hu5
    have fr := sC.seqT hra3
    have gF := (g3.trans sC.go).trans b4.go
    have tF := b4.tups
    have eL := b4.go.out L _ nL (upd_same (a := L) (o := .lst [.ref u1, .ref u2, .ref u3, .ref u4, .ref u5]))
    have yI : ∀ {H7 : Hp}, DtAll K H7 (r.map V.int) (r.map PyData.int) := DtAll.ints r
    have go : ∀ {j : Nat} {p : Addr} {zs : List PyData} {xs : List V}, q = (j : Int) → [V.ref u1, .ref u2, .ref u3, .ref u4, .ref u5][j]? = some (.ref p) → SqT K _ p xs → DtAll K _ xs zs → zs.length ≤ 9 → (∀ z ∈ zs, Sized 10 2 z ∨ z = tupI r) → _ := fun {j p zs xs} eq ej st da lz all => (⟨L, _, _, .ref p, rfl, rfl, SqL.of eL, at_of (j := j) eq ej, k _ _ _ (.tuple zs) gF b4.next (.tup st da.dn) ((sized_tup (m := 100) (h := 4) fun z hz => by
      rcases all z hz with q | q
      · exact q.more (by decide) (by decide)
      · rw [q]
        exact (sized_tup sR).more (Nat.le_trans (Nat.mul_le_mul_right _ (show (r.map PyData.int).length ≤ 9 by rw [List.length_map]; omega)) (by decide)) (by decide)).more (Nat.le_trans (Nat.mul_le_mul_right _ lz) (by decide)) (by decide))⟩ : ∃ a xs i v, V.ref L = .ref a ∧ V.int q = .int i ∧ SqL K _ a xs ∧ atI xs i = some v ∧ Q v _)
    rcases (show q = 0 ∨ q = 1 ∨ q = 2 ∨ q = 3 ∨ q = 4 by omega) with rfl | rfl | rfl | rfl | rfl
    · exact go (j := 0) rfl rfl (tF.seq f1) (yI.take _) (by rw [List.length_take, List.length_map]; omega) (fun z hz => .inl (sR z (List.mem_of_mem_take hz)))
    · exact go (j := 1) (zs := r.map PyData.int ++ [.int 0]) rfl rfl (tF.seq f2) (yI.app (.cons (.int 0) .nil)) (by rw [List.length_append, List.length_map]; show _ + 1 ≤ _; omega) (fun z hz => by
        rcases List.mem_append.mp hz with hz | hz
        · exact .inl (sR z hz)
        · rw [List.mem_singleton.mp hz]
          exact .inl (sI 0 (by decide) (by decide)))
    · exact go (j := 2) (zs := [tupI r]) rfl rfl (tF.seq f3) (.cons (.tup (tF.seq fr) yI) .nil) (by show 1 ≤ 9; decide) (fun z hz => .inr (List.mem_singleton.mp hz))
    · exact go (j := 3) (zs := []) rfl rfl (tF.seq f4) .nil (by decide) (fun z hz => absurd hz List.not_mem_nil)
    · exact go (j := 4) (zs := r.map PyData.int ++ r.map PyData.int) rfl rfl (tF.seq f5) (yI.app yI) (by rw [List.length_append, List.length_map]; omega) (fun z hz => by
        rcases List.mem_append.mp hz with hz | hz <;> exact .inl (sR z hz))
  -- 4: another value at one place
  refine ⟨_, rfl, _, _, rfl, rfl, _, rfl, ?_⟩
  refine ite2 (fun _ => ?_) (fun _ => ?_)
  · obtain ⟨ta, la, wa, ba, wxs, bxs, rfl, hta, hla, _, _, _, _⟩ := task_at T3
    have lat : atI (ls.map V.int) a = some (.int (ls[a.toNat]'(by omega))) := at_of (j := a.toNat) an (by rw [List.getElem?_map, List.getElem?_eq_getElem (by omega)]; rfl)
    have l60 := lok _ (List.getElem_mem (show a.toNat < ls.length by omega))
    refine ⟨_, rfl, _, rfl, _, rfl, ra, _, rfl, hra3, fun q4 H4 s4 hq4 => ?_⟩
    rw [an, cut_to] at hq4
    refine ⟨_, rfl, _, rfl, ta, _, _, _, rfl, rfl, s4.seqT hta, at_of (j := 2) rfl rfl, _, rfl, la, _, _, _, rfl, rfl, s4.seqT hla, lat, (by show 1 ≤ sizeLine; decide), fun u hu => ?_⟩
    have a1 := same_new hu (.tup [.int 0])
    refine ⟨_, rfl, _, rfl, ra, _, _, _, rfl, rfl, a1.seqT (s4.seqT hra3), at0, _, _, rfl, rfl, (by show 6 ≤ sizeLine; decide), fun L hL => ?_⟩
    have a2 := same_new hL (.lst [.int (-1), .int (ls[a.toNat]'(by omega)), .non, .str "0", .ref u, .int (r[a.toNat] - 1)])
    have sC := (s4.trans a1).trans a2
    have b4 := hh3.same sC
    have nL : ¬ L = h := (ne_of_none (hh3.same (s4.trans a1)).1 hL).symm
    have row : DtAll K _ [.int (-1), .int (ls[a.toNat]'(by omega)), .non, .str "0", .ref u, .int (r[a.toNat] - 1)] [.int (-1), .int (ls[a.toNat]'(by omega)), .none, .str "0", .tuple [.int 0], .int (r[a.toNat] - 1)] :=
      .cons (.int _) (.cons (.int _) (.cons .non (.cons (.str _) (.cons (.tup (a2.seqT (SqT.of upd_same)) (.cons (.int 0) .nil)) (.cons (.int _) .nil)))))
    refine ⟨_, rfl, h, d, ds, _, 6, rfl, b4.1, b4.2, by omega, by omega, fun q q0 q1 => ?_⟩
    obtain ⟨y, e', hy, hm, hyd0⟩ := (row.stay b4.tups).pick (i := q) (by show -((6 : Nat) : Int) ≤ q; omega) (by show q < ((6 : Nat) : Int); omega)
    have eL := b4.go.out L _ nL (upd_same (a := L) (o := .lst [.int (-1), .int (ls[a.toNat]'(by omega)), .non, .str "0", .ref u, .int (r[a.toNat] - 1)]))
    refine ⟨L, _, _, y, rfl, rfl, SqL.of eL, hy, (by show 1 ≤ sizeLine; decide), fun t ht => ?_⟩
    have t1 := same_new ht (.tup [y])
    have hq4c := t1.seqT (b4.tups.seq ((a1.trans a2).seqT hq4))
    have hrac := t1.seqT (b4.tups.seq (sC.seqT hra3))
    have gc := ((g3.trans sC.go).trans b4.go).trans t1.go
    have hc := b4.next.same t1
    have hyd := hyd0.stay t1.tups
    have se' : Sized 10 2 e' := by
      simp only [List.mem_cons, List.not_mem_nil, or_false] at hm
      rcases hm with rfl | rfl | rfl | rfl | rfl | rfl
      · exact sI _ (by decide) (by decide)
      · exact sI _ (by omega) (by omega)
      · exact sized_non.more (by decide) (by decide)
      · exact (sized_str "0" (by decide) 1 (by decide)).more (by decide) (by decide)
      · exact (sized_one (sized_int (i := 0) (by decide))).more (by decide) (by decide)
      · exact sI _ (by omega) (by omega)
    refine ⟨q4, t, _, _, rfl, rfl, hq4c, SqT.of upd_same, le_sz (by rw [List.length_take, List.length_map]; show _ + 1 ≤ _; omega), fun q5 H5 s5 hq5 => ?_⟩
    refine ⟨_, rfl, _, rfl, _, _, rfl, rfl, _, rfl, ra, _, rfl, s5.seqT hrac, fun q6 H6 s6 hq6 => ?_⟩
    rw [show a + 1 = ((a.toNat + 1 : Nat) : Int) by omega, cut_from] at hq6
    refine ⟨q5, q6, _, _, rfl, rfl, s6.seqT hq5, hq6, le_sz (by rw [List.length_append, List.length_take, List.length_drop, List.length_map]; show _ + 1 + _ ≤ _; omega), fun q7 H7 s7 hq7 => ?_⟩
    have ts := (s5.trans s6).trans s7
    have yr := DtAll.ints (K := K) (H := H7) r
    exact fin (zs := (r.map PyData.int).take a.toNat ++ [e'] ++ (r.map PyData.int).drop (a.toNat + 1)) (gc.trans ts.go) (hc.same ts) hq7 (((yr.take _).app (.cons (hyd.stay ts.tups) .nil)).app (yr.drop _)) (by rw [List.length_append, List.length_append, List.length_take, List.length_drop, List.length_map]; show _ + 1 + _ ≤ _; omega) (fun z hz => by
      rcases List.mem_append.mp hz with hz | hz
      · rcases List.mem_append.mp hz with hz | hz
        · exact sR z (List.mem_of_mem_take hz)
        · rw [List.mem_singleton.mp hz]
          exact se'
      · exact sR z (List.mem_of_mem_drop hz))
  -- 5: no tuple
  refine ⟨_, rfl, _, _, rfl, rfl, _, rfl, ?_⟩
  refine ite2 (fun _ => ?_) (fun _ => ?_)
  · intro kd hkd
    have a1 := same_new hkd (.dK [])
    have nk : ¬ kd = h := (ne_of_none hh3.1 hkd).symm
    refine ⟨_, rfl, (by show 1 ≤ sizeLine; decide), fun l hl => ?_⟩
    have a2 := same_new hl (.lst [.ref ra])
    have nl : ¬ l = h := (ne_of_none (hh3.same a1).1 hl).symm
    have sB := a1.trans a2
    refine ⟨rfl, _, rfl, ra, rfl, ⟨_, sB.seqT hra3⟩, fun q2 hq2 => ?_⟩
    refine itt_walk (K := K) (a := ra) (xs := r.map V.int) (fun j H5 => Same _ H5 ∧ H5 q2 = some (.lst (((r.take j).map fun x => Str.ofString (toString x)).map V.str))) ⟨same_new hq2 _, upd_same⟩ (fun j H5 _ z => z.1.seqT (sB.seqT hra3)) ?_ ?_
    · rintro j y H5 hj ⟨s5, e5⟩
      obtain ⟨m, hm, rfl⟩ := item_of hj
      have m59 := rs m (List.mem_of_getElem? hm)
      refine ⟨rfl, ?_⟩
      refine ⟨_, rfl, m, rfl, Nat.lt_of_le_of_lt (Nat.log2_le_self _) (by omega), ?_⟩
      refine ⟨_, e5, lt_small ?_, same_own s5 hq2 _, ?_⟩
      · rw [List.length_map, List.length_map, List.length_take]
        omega
      · rw [upd_same, take_more hm, List.map_append, List.map_append]
        rfl
    rintro H5 ⟨s5, e5⟩
    rw [rl', List.take_of_length_le (Nat.le_refl _)] at e5
    refine ⟨",", q2, _, rfl, rfl, .inl (SqL.of e5), ?_, ?_⟩
    · have sm := sum_two (r.map fun x => Str.ofString (toString x)) fun y hy => by
        obtain ⟨x, hx, rfl⟩ := List.mem_map.mp hy
        obtain ⟨x0, x1⟩ := rs x hx
        have d := (digits x.toNat (by omega)).2
        rw [Int.toNat_of_nonneg x0, Array.length_toList] at d
        exact d
      rw [List.length_map] at sm ⊢
      have one : ("," : Str).length = 1 := by decide
      rw [one]
      omega
    refine ⟨(by show 7 ≤ sizeLine; decide), fun L hL => ?_⟩
    have a6 := same_new hL (.lst [.non, .bl true, .int 0, .str "", .ref kd, .ref l, .str (Txt.join "," (r.map fun x => Str.ofString (toString x)))])
    have sC := (sB.trans s5).trans a6
    have b4 := hh3.same sC
    have nL : ¬ L = h := (ne_of_none (hh3.same (sB.trans s5)).1 hL).symm
    have row : DnAll (· = h) K _ [.non, .bl true, .int 0, .str "", .ref kd, .ref l, .str (Txt.join "," (r.map fun x => Str.ofString (toString x)))] [.none, .bool true, .int 0, .str "", .dict [], .list [tupI r], .str (Txt.join "," (r.map fun x => Str.ofString (toString x)))] :=
      .cons .non (.cons (.bl _) (.cons (.int _) (.cons (.str _) (.cons (dn_dict0 (M := (· = h)) nk (((a2.trans s5).trans a6) _ _ upd_same)) (.cons (.lst nl ((s5.trans a6) _ _ upd_same) (.cons (.tup (sC.seqT hra3) (DtAll.ints r).dn) .nil)) (.cons (.str _) .nil))))))
    refine ⟨_, rfl, h, d, ds, _, 7, rfl, b4.1, b4.2, by omega, by omega, fun q q0 q1 => ?_⟩
    obtain ⟨y, e', hy, hm, hyd⟩ := (row.stay b4.go).pick (i := q) (by show -((7 : Nat) : Int) ≤ q; omega) (by show q < ((7 : Nat) : Int); omega)
    have eL := b4.go.out L _ nL (upd_same (a := L) (o := .lst [.non, .bl true, .int 0, .str "", .ref kd, .ref l, .str (Txt.join "," (r.map fun x => Str.ofString (toString x)))]))
    refine ⟨L, _, _, y, rfl, rfl, SqL.of eL, hy, ?_⟩
    refine k y _ _ e' ((g3.trans sC.go).trans b4.go) b4.next hyd ?_
    simp only [List.mem_cons, List.not_mem_nil, or_false] at hm
    rcases hm with rfl | rfl | rfl | rfl | rfl | rfl | rfl
    · exact sized_non.more (by decide) (by decide)
    · exact (sized_bl _).more (by decide) (by decide)
    · exact (sI 0 (by decide) (by decide)).more (by decide) (by decide)
    · exact (sized_str "" (by decide) 1 (by decide)).more (by decide) (by decide)
    · exact sized_dict0.more (by decide) (by decide)
    · exact (sized_lst (m := 200) (h := 3) (ds := [tupI r]) (fun z hz => by
        rw [List.mem_singleton.mp hz]
        exact (sized_tup sR).more (Nat.le_trans (Nat.mul_le_mul_right _ (show (r.map PyData.int).length ≤ 9 by rw [List.length_map]; omega)) (by decide)) (by decide))).more (by show 1 * 201 ≤ 1000; decide) (by decide)
    · exact (sized_join rs (by omega)).more (by decide) (by decide)
  -- 6: another label
  refine ⟨_, rfl, _, _, rfl, rfl, _, rfl, ?_⟩
  refine ite2 (fun _ => ?_) (fun _ => ?_)
  · obtain ⟨ta, la, wa, ba, wxs, bxs, rfl, hta, hla, _, _, _, _⟩ := task_at T3
    have lat : atI (ls.map V.int) a = some (.int (ls[a.toNat]'(by omega))) := at_of (j := a.toNat) an (by rw [List.getElem?_map, List.getElem?_eq_getElem (by omega)]; rfl)
    have l60 := lok _ (List.getElem_mem (show a.toNat < ls.length by omega))
    refine ⟨_, rfl, _, rfl, _, rfl, ra, _, rfl, hra3, fun q4 H4 s4 hq4 => ?_⟩
    rw [an, cut_to] at hq4
    refine ⟨_, rfl, _, rfl, ra, _, _, _, rfl, rfl, s4.seqT hra3, at0, _, _, rfl, rfl, .inl ⟨_, rfl, _, rfl, ta, _, _, _, rfl, rfl, s4.seqT hta, at_of (j := 2) rfl rfl, _, rfl, la, _, _, _, rfl, rfl, s4.seqT hla, lat, _, _, rfl, rfl, (by omega), (by show 1 ≤ sizeLine; decide), fun t ht => ?_⟩⟩
    have v0 := Int.emod_nonneg (r[a.toNat] + 1) (show ls[a.toNat]'(by omega) ≠ 0 by omega)
    have v1 := Int.emod_lt_of_pos (r[a.toNat] + 1) (show 0 < ls[a.toNat]'(by omega) by omega)
    have t1 := same_new ht (.tup [.int ((r[a.toNat] + 1) % ls[a.toNat]'(by omega))])
    have hq4c := t1.seqT hq4
    have hrac := (s4.trans t1).seqT hra3
    have gc := g3.trans (s4.trans t1).go
    have hc := hh3.same (s4.trans t1)
    obtain ⟨e', ee⟩ : ∃ z, z = PyData.int ((r[a.toNat] + 1) % ls[a.toNat]'(by omega)) := ⟨_, rfl⟩
    have hyd : Dt K (upd H4 t (.tup [.int ((r[a.toNat] + 1) % ls[a.toNat]'(by omega))])) (.int ((r[a.toNat] + 1) % ls[a.toNat]'(by omega))) e' := by
      rw [ee]
      exact .int _
    have se' : Sized 10 2 e' := by
      rw [ee]
      exact sI _ (by omega) (by omega)
    refine ⟨q4, t, _, _, rfl, rfl, hq4c, SqT.of upd_same, le_sz (by rw [List.length_take, List.length_map]; show _ + 1 ≤ _; omega), fun q5 H5 s5 hq5 => ?_⟩
    refine ⟨_, rfl, _, rfl, _, _, rfl, rfl, _, rfl, ra, _, rfl, s5.seqT hrac, fun q6 H6 s6 hq6 => ?_⟩
    rw [show a + 1 = ((a.toNat + 1 : Nat) : Int) by omega, cut_from] at hq6
    refine ⟨q5, q6, _, _, rfl, rfl, s6.seqT hq5, hq6, le_sz (by rw [List.length_append, List.length_take, List.length_drop, List.length_map]; show _ + 1 + _ ≤ _; omega), fun q7 H7 s7 hq7 => ?_⟩
    have ts := (s5.trans s6).trans s7
    have yr := DtAll.ints (K := K) (H := H7) r
    exact fin (zs := (r.map PyData.int).take a.toNat ++ [e'] ++ (r.map PyData.int).drop (a.toNat + 1)) (gc.trans ts.go) (hc.same ts) hq7 (((yr.take _).app (.cons (hyd.stay ts.tups) .nil)).app (yr.drop _)) (by rw [List.length_append, List.length_append, List.length_take, List.length_drop, List.length_map]; show _ + 1 + _ ≤ _; omega) (fun z hz => by
      rcases List.mem_append.mp hz with hz | hz
      · rcases List.mem_append.mp hz with hz | hz
        · exact sR z (List.mem_of_mem_take hz)
        · rw [List.mem_singleton.mp hz]
          exact se'
      · exact sR z (List.mem_of_mem_drop hz))
  · exact ⟨_, rfl, fin g3 hh3 hra3 (DtAll.ints r) (by rw [List.length_map]; omega) sR⟩
end
section
variable {P : Program} {w : World} {K : PySem.W.Frag} {mg : Str → Option Value} {base : Heap}
theorem task_parts_sized {D : Int} {ls : List Int} {W B : List (List (List Int))} (d0 : -10 ≤ D) (d1 : D ≤ 10) (lok : ∀ m ∈ ls, 1 ≤ m ∧ m ≤ 60) (l4 : ls.length ≤ 4) (gW : GoodS ls W) (gB : GoodS ls B) : Sized 104 3 (.str "task") ∧ Sized 104 3 (.int D) ∧ Sized 104 3 (tupI ls) ∧ Sized 104 3 (sideD W) ∧ Sized 104 3 (sideD B) := by
  have sI : ∀ i : Int, -100 ≤ i → i ≤ 100 → Sized 0 0 (.int i) := fun i q1 q2 => sized_int (Nat.lt_of_lt_of_le (show i.natAbs < 200 by omega) (by decide))
  have rowS : ∀ r : List Int, r.length ≤ 4 → (∀ x ∈ r, -100 ≤ x ∧ x ≤ 100) → Sized 4 1 (tupI r) := fun r l a => by
    refine (sized_tup (m := 0) (h := 0) fun z hz => ?_).more (by rw [List.length_map]; omega) (Nat.le_refl _)
    obtain ⟨i, hi, rfl⟩ := List.mem_map.mp hz
    exact sI i (a i hi).1 (a i hi).2
  have sideS : ∀ S : List (List (List Int)), GoodS ls S → Sized 104 3 (sideD S) := fun S g => by
    refine (sized_tup (m := 25) (h := 2) fun z hz => ?_).more (by rw [List.length_map]; have := g.2.1; omega) (Nat.le_refl _)
    obtain ⟨rows, hr, rfl⟩ := List.mem_map.mp hz
    obtain ⟨n5, ok, _⟩ := g.2.2 rows hr
    refine (sized_tup (m := 4) (h := 1) fun z hz => ?_).more (by rw [List.length_map]; omega) (Nat.le_refl _)
    obtain ⟨r, hr, rfl⟩ := List.mem_map.mp hz
    refine rowS r (by rw [row_len (ok r hr)]; exact l4) fun x hx => ?_
    have := row_small lok (ok r hr) x hx
    omega
  exact ⟨(sized_str "task" (by decide) 4 (by decide)).more (by decide) (by decide), (sI D (by omega) (by omega)).more (by decide) (by decide), (rowS ls l4 fun x hx => by have := lok x hx; omega).more (by decide) (by decide), sideS W gW, sideS B gB⟩
theorem task_sized {D : Int} {ls : List Int} {W B : List (List (List Int))} (d0 : -10 ≤ D) (d1 : D ≤ 10) (lok : ∀ m ∈ ls, 1 ≤ m ∧ m ≤ 60) (l4 : ls.length ≤ 4) (gW : GoodS ls W) (gB : GoodS ls B) : Sized 525 4 (taskD D ls W B) := by
  obtain ⟨a, b, c, e, f⟩ := task_parts_sized d0 d1 lok l4 gW gB
  refine sized_tup (m := 104) (h := 3) fun z hz => ?_
  simp only [List.mem_cons, List.not_mem_nil, or_false] at hz
  rcases hz with rfl | rfl | rfl | rfl | rfl <;> assumption
def spAsked (K : PySem.W.Frag) : Sp := fun vs H Q _ => ∃ (h d : Addr) (ds : List Int) (n : Nat) (x : V) (D : Int) (ls : List Int) (W B : List (List (List Int))), vs = [.ref h, x] ∧ Hand H h d ds n ∧ Sys K H ∧ Dt K H x (taskD D ls W B) ∧ 2 ≤ D ∧ D ≤ 4 ∧ LabOk D ls ∧ GoodS ls W ∧ GoodS ls B ∧
  ∀ (H' : Hp) (n' : Nat), Go (· = h) H H' → Hand H' h d ds n' → Q (.bl true) H'
set_option maxHeartbeats 2000000 in
theorem ok_asked {C : Addr} {f : Addr} {fd : FuncData} (B : Blt mg) (g_law_side_value : Has P w K mg base CX0 2 "_law_side_value" ["hand"] (spSideV K)) (g_law_number_value : Has P w K mg base CX0 2 "_law_number_value" ["hand", "many"] (spNumV K)) (g_law_row_value : Has P w K mg base CX0 3 "_law_row_value" ["hand", "task"] (spRowV K))
    (g_law_due : Has P w K mg base CX0 3 "_law_due" ["task", "side", "number", "row"] (spDueL K)) (grow_allowed : Has P w K mg base (L2.CX P w) 7 "row_allowed" ["task", "side", "number", "row"] (spAllowed K C))
    (F : Fun K "_law_asked" "_law_asked" s_law_asked f fd) : FnG P w K mg base 8 f fd ["hand", "task"] (spAsked K) := by
  have sc : FnScope ["hand", "task", "side", "many", "number", "row", "kept", "due", "k", "answer"] ["hand", "task"] (defScope s_law_asked) := ⟨rfl, rfl, rfl, by decide +kernel, rfl, by decide +kernel, by decide +kernel⟩
  refine FnG.by F sc (fun vs H Q E h => ?_) (fun cdv A outer s H vs Q E hg hr h => ?_)
  · obtain ⟨_, _, _, _, _, _, _, _, _, rfl, _⟩ := h
    rfl
  obtain ⟨h, d, ds, n0, x, D, ls, W, Bl, rfl, hh, S0, hT, D2, D4, lab, gW, gB, k⟩ := h
  refine ⟨_, (pss_cons (ps_set (i := 2) sc.nd rfl (Or.inl rfl) (pc g_law_side_value hr (pa_cons (pv 0) pa_nil)))
    (pss_cons (ps_set (i := 3) sc.nd rfl (Or.inl rfl) (pe_callB call_len_seq (by rfl) B.len (by decide +kernel) (pa_cons (pe_ix ix_tup (pv 1) pe_int (fun _ _ => rfl)) pa_nil)))
    (pss_cons (ps_if (pt_cmpR (op_eqD hr.units) (pv 2) pe_str (nomark _))
      (pss_one (ps_set (i := 3) sc.nd rfl (Or.inl rfl) (pe_callB call_len_seq (by rfl) B.len (by decide +kernel) (pa_cons (pe_ix ix_tup (pv 1) pe_int (fun _ _ => rfl)) pa_nil))))
      pss_nil)
    (pss_cons (ps_set (i := 4) sc.nd rfl (Or.inl rfl) (pc g_law_number_value hr (pa_cons (pv 0) (pa_cons (pv 3) pa_nil))))
    (pss_cons (ps_set (i := 5) sc.nd rfl (Or.inl rfl) (pc g_law_row_value hr (pa_cons (pv 0) (pa_cons (pv 1) pa_nil))))
    (pss_cons (ps_set (i := 6) sc.nd rfl (Or.inl rfl) (pe_callB (call_repN hg hr.units) (by rfl) B.repr (by decide +kernel) (pa_cons (pe_lst (pa_cons (pv 1) (pa_cons (pv 2) (pa_cons (pv 4) (pa_cons (pv 5) pa_nil))))) pa_nil)))
    (pss_cons (ps_set (i := 7) sc.nd rfl (Or.inl rfl) (pc g_law_due hr (pa_cons (pv 1) (pa_cons (pv 2) (pa_cons (pv 4) (pa_cons (pv 5) pa_nil))))))
    (pss_cons (ps_for PassesOwn.never rfl (pi_range1 (by rfl) B.range (pa_cons pe_int pa_nil)) (pg_name (i := 8) sc.nd rfl (Or.inl rfl))
      (pss_cons (ps_set (i := 9) sc.nd rfl (Or.inl rfl) (pcX grow_allowed hr (pa_cons (pv 1) (pa_cons (pv 2) (pa_cons (pv 4) (pa_cons (pv 5) pa_nil))))))
      (pss_one (ps_if (PW.pt (pw_or (pt_not (pt_val (pe_callB call_isi (by rfl) B.isinstance (by decide +kernel) (pa_cons (pv 9) (pa_cons (pe_bltn (v := V.ty "bool") (u := Value.type "bool") (by rfl) B.bool (by decide +kernel) rfl) pa_nil))))) (pw_or (pt_cmpR op_ne (pv 9) (pv 7) (nomark _)) (pw_or1 (pt_cmpR op_nes (pe_callB (call_repN hg hr.units) (by rfl) B.repr (by decide +kernel) (pa_cons (pe_lst (pa_cons (pv 1) (pa_cons (pv 2) (pa_cons (pv 4) (pa_cons (pv 5) pa_nil))))) pa_nil)) (pv 6) (nomark _))))))
        (pss_one (ps_ret pe_bl))
        pss_nil))))
    (pss_one (ps_ret pe_bl)))))))))), ?_⟩
  have l24 : 2 ≤ ls.length ∧ ls.length ≤ 4 := by have := lab.1; omega
  have it := task_ok D2 D4 lab gW gB
  have tS := task_sized (D := D) (by omega) (by omega) lab.2.1 l24.2 gW gB
  have tb : (taskD D ls W Bl).bulk ≤ 1000000 := Nat.le_trans tS.2.2.2 (by decide)
  have nh : ¬ sysModules = h := S0.ne hh.1
  refine ⟨_, rfl, h, d, ds, n0, rfl, hh, fun sv H1 n1 sd g1 hh1 hs ss shs => ?_⟩
  obtain ⟨ta, la, wa, ba, wxs, bxs, rfl, hta, hla, hwa, hwx, hba, hbx⟩ := task_at (hT.stay g1.tups)
  have T1 := hT.stay g1.tups
  have lw : wxs.length = W.length := by rw [hwx.len, List.length_map]
  have lb : bxs.length = Bl.length := by rw [hbx.len, List.length_map]
  have w14 := And.intro gW.1 gW.2.1
  have b14 := And.intro gB.1 gB.2.1
  refine ⟨_, rfl, ta, _, _, _, rfl, rfl, hta, at_of (j := 3) rfl rfl, wa, _, rfl, .inr hwa, ?_⟩
  refine ⟨_, rfl, sd, .str "black", shaped_dp hs shs, .str "black", shs, by decide +kernel, _, rfl, ?_⟩
  rw [str_eqv]
  cases hc : isStr "black" sd with
  | true =>
    refine iteT ?_
    refine ⟨_, rfl, ta, _, _, _, rfl, rfl, hta, at_of (j := 4) rfl rfl, ba, _, rfl, .inr hba, ?_⟩
    refine ⟨_, rfl, _, rfl, h, d, ds, _, _, rfl, hh1, by omega, by omega, fun nv H2 n2 nd g2 hh2 hn sn => ?_⟩
    have T2 := T1.stay g2.tups
    refine ⟨_, rfl, _, rfl, h, d, ds, _, _, D, ls, W, Bl, rfl, hh2, T2, gW, gB, by omega, l24.2, lab.2.1, fun rv H3 n3 rd g3 hh3 hrv sr => ?_⟩
    have T3 := T2.stay g3.tups
    have hs3 := hs.stay (g2.trans g3)
    have hn3 := hn.stay g3
    have gz := (g1.trans g2).trans g3
    have S3 := S0.go gz nh
    have sz : Sized 4004 11 (.list [taskD D ls W Bl, sd, nd, rd]) := sized_lst (m := 1000) (h := 10) fun z hz => by
      simp only [List.mem_cons, List.not_mem_nil, or_false] at hz
      rcases hz with rfl | rfl | rfl | rfl
      · exact tS.more (by decide) (by decide)
      · exact ss.more (by decide) (by decide)
      · exact sn.more (by decide) (by decide)
      · exact sr
    obtain ⟨z1, z2, z3⟩ := sz.rep (by decide) (by decide)
    have listed : ∀ {H4 : Hp} {L : Addr}, Same H3 H4 → ¬ L = h → H4 L = some (.lst [.ref ta, sv, nv, rv]) → Dn (· = h) K H4 (.ref L) (.list [taskD D ls W Bl, sd, nd, rd]) := fun {H4 L} s4 nL e =>
      .lst nL e (.cons (T3.stay s4.tups).dn (.cons (hs3.stay s4.go) (.cons (hn3.stay s4.go) (.cons (hrv.stay s4.go) .nil))))
    refine ⟨_, rfl, _, rfl, _, rfl, _, rfl, (by show 4 ≤ sizeLine; decide), fun L hL => ?_⟩
    have sL := same_new hL (.lst [.ref ta, sv, nv, rv])
    have nL : ¬ L = h := (ne_of_none hh3.1 hL).symm
    refine ⟨(· = h), _, _, rfl, listed sL nL upd_same, S3.same sL, z1, z2, z3, ?_⟩
    refine ⟨_, rfl, _, rfl, _, rfl, _, rfl, (· = h), .ref ta, sv, nv, rv, sd, nd, rd, D, ls, W, Bl, rfl, T3.stay sL.tups, gW, gB, l24.2, hs3.stay sL.go, hn3.stay sL.go, hrv.stay sL.go, fun H5 s5 => ?_⟩
    have s35 := sL.trans s5
    refine ⟨2, rfl, by decide, by decide, for_range (lo := 0) (n := (2 : Int).toNat) (fun i σ H6 => ∃ (kv av : Option V), σ = [some (.ref h), some (.ref ta), some sv, some (.int ((bxs.length : Nat) : Int)), some nv, some rv, some (.str (PyData.list [taskD D ls W Bl, sd, nd, rd]).shown), some (.bl (due ls W Bl sd nd rd)), kv, av] ∧ Same H3 H6)
      ⟨none, none, rfl, s35⟩ ?_ ?_⟩
    · rintro i σ H6 hi ⟨kv, av, rfl, s6⟩
      refine ⟨_, rfl, _, rfl, _, rfl, _, rfl, (· = h), .ref ta, sv, nv, rv, taskD D ls W Bl, sd, nd, rd, rfl, (T3.stay s6.tups).dn, hs3.stay s6.go, hn3.stay s6.go, hrv.stay s6.go, tb, task_word _ _ _ _, shs, .inr ⟨D, ls, W, Bl, rfl, it, l24.2, fun H7 s7 => ?_⟩⟩
      have s37 := s6.trans s7
      refine ⟨_, rfl, _, _, _, _, true, rfl, ClsV.ty _, TyX.base (TyOf.bl _), kit_ty (by decide +kernel), _, rfl, ?_⟩
      refine iteF ?_
      refine ⟨_, rfl, _, rfl, rfl, _, rfl, ?_⟩
      refine iteNS rfl ?_
      refine ⟨_, rfl, _, rfl, _, rfl, _, rfl, (by show 4 ≤ sizeLine; decide), fun L2 hL2 => ?_⟩
      have sL2 := s37.trans (same_new hL2 (.lst [.ref ta, sv, nv, rv]))
      have nL2 : ¬ L2 = h := (ne_of_none (hh3.same s37).1 hL2).symm
      refine ⟨(· = h), _, _, rfl, listed sL2 nL2 upd_same, S3.same sL2, z1, z2, z3, _, rfl, _, _, rfl, rfl, _, rfl, ?_⟩
      refine iteNS rfl ?_
      exact ⟨_, _, rfl, sL2⟩
    · rintro σ H6 ⟨kv, av, rfl, s6⟩
      exact k H6 n3 (gz.trans s6.go) (hh3.same s6)
  | false =>
    refine iteF ?_
    refine ⟨_, rfl, _, rfl, h, d, ds, _, _, rfl, hh1, by omega, by omega, fun nv H2 n2 nd g2 hh2 hn sn => ?_⟩
    have T2 := T1.stay g2.tups
    refine ⟨_, rfl, _, rfl, h, d, ds, _, _, D, ls, W, Bl, rfl, hh2, T2, gW, gB, by omega, l24.2, lab.2.1, fun rv H3 n3 rd g3 hh3 hrv sr => ?_⟩
    have T3 := T2.stay g3.tups
    have hs3 := hs.stay (g2.trans g3)
    have hn3 := hn.stay g3
    have gz := (g1.trans g2).trans g3
    have S3 := S0.go gz nh
    have sz : Sized 4004 11 (.list [taskD D ls W Bl, sd, nd, rd]) := sized_lst (m := 1000) (h := 10) fun z hz => by
      simp only [List.mem_cons, List.not_mem_nil, or_false] at hz
      rcases hz with rfl | rfl | rfl | rfl
      · exact tS.more (by decide) (by decide)
      · exact ss.more (by decide) (by decide)
      · exact sn.more (by decide) (by decide)
      · exact sr
    obtain ⟨z1, z2, z3⟩ := sz.rep (by decide) (by decide)
    have listed : ∀ {H4 : Hp} {L : Addr}, Same H3 H4 → ¬ L = h → H4 L = some (.lst [.ref ta, sv, nv, rv]) → Dn (· = h) K H4 (.ref L) (.list [taskD D ls W Bl, sd, nd, rd]) := fun {H4 L} s4 nL e =>
      .lst nL e (.cons (T3.stay s4.tups).dn (.cons (hs3.stay s4.go) (.cons (hn3.stay s4.go) (.cons (hrv.stay s4.go) .nil))))
    refine ⟨_, rfl, _, rfl, _, rfl, _, rfl, (by show 4 ≤ sizeLine; decide), fun L hL => ?_⟩
    have sL := same_new hL (.lst [.ref ta, sv, nv, rv])
    have nL : ¬ L = h := (ne_of_none hh3.1 hL).symm
    refine ⟨(· = h), _, _, rfl, listed sL nL upd_same, S3.same sL, z1, z2, z3, ?_⟩
    refine ⟨_, rfl, _, rfl, _, rfl, _, rfl, (· = h), .ref ta, sv, nv, rv, sd, nd, rd, D, ls, W, Bl, rfl, T3.stay sL.tups, gW, gB, l24.2, hs3.stay sL.go, hn3.stay sL.go, hrv.stay sL.go, fun H5 s5 => ?_⟩
    have s35 := sL.trans s5
    refine ⟨2, rfl, by decide, by decide, for_range (lo := 0) (n := (2 : Int).toNat) (fun i σ H6 => ∃ (kv av : Option V), σ = [some (.ref h), some (.ref ta), some sv, some (.int ((wxs.length : Nat) : Int)), some nv, some rv, some (.str (PyData.list [taskD D ls W Bl, sd, nd, rd]).shown), some (.bl (due ls W Bl sd nd rd)), kv, av] ∧ Same H3 H6)
      ⟨none, none, rfl, s35⟩ ?_ ?_⟩
    · rintro i σ H6 hi ⟨kv, av, rfl, s6⟩
      refine ⟨_, rfl, _, rfl, _, rfl, _, rfl, (· = h), .ref ta, sv, nv, rv, taskD D ls W Bl, sd, nd, rd, rfl, (T3.stay s6.tups).dn, hs3.stay s6.go, hn3.stay s6.go, hrv.stay s6.go, tb, task_word _ _ _ _, shs, .inr ⟨D, ls, W, Bl, rfl, it, l24.2, fun H7 s7 => ?_⟩⟩
      have s37 := s6.trans s7
      refine ⟨_, rfl, _, _, _, _, true, rfl, ClsV.ty _, TyX.base (TyOf.bl _), kit_ty (by decide +kernel), _, rfl, ?_⟩
      refine iteF ?_
      refine ⟨_, rfl, _, rfl, rfl, _, rfl, ?_⟩
      refine iteNS rfl ?_
      refine ⟨_, rfl, _, rfl, _, rfl, _, rfl, (by show 4 ≤ sizeLine; decide), fun L2 hL2 => ?_⟩
      have sL2 := s37.trans (same_new hL2 (.lst [.ref ta, sv, nv, rv]))
      have nL2 : ¬ L2 = h := (ne_of_none (hh3.same s37).1 hL2).symm
      refine ⟨(· = h), _, _, rfl, listed sL2 nL2 upd_same, S3.same sL2, z1, z2, z3, _, rfl, _, _, rfl, rfl, _, rfl, ?_⟩
      refine iteNS rfl ?_
      exact ⟨_, _, rfl, sL2⟩
    · rintro σ H6 ⟨kv, av, rfl, s6⟩
      exact k H6 n3 (gz.trans s6.go) (hh3.same s6)
end
section
variable {P : Program} {w : World} {K : PySem.W.Frag} {mg : Str → Option Value} {base : Heap}
theorem not5 (l : List PyData) : isTask (.list l) = false := rfl
theorem not6 (a b c d e f : PyData) : isTask (.tuple [a, b, c, d, e, f]) = false := rfl
theorem notB (v c d e : PyData) : isTask (.tuple [v, .bool true, c, d, e]) = false := by
  show (isWord v && (areLabels (.bool true) c && (areInputs (intsD c) d && areInputs (intsD c) e))) = false
  rw [show areLabels (.bool true) c = false from rfl, Bool.false_and, Bool.and_false]
theorem word_first {v : PyData} {l r : List PyData} (e : PyData.tuple (.str "task" :: l) = .tuple (v :: r)) : SeqAt.shaped v = true := by
  cases e
  decide +kernel
theorem bulk_lt (ds : List PyData) : (PyData.list ds).bulk = (PyData.tuple ds).bulk := by simp only [PyData.bulk]
def spLaw (K : PySem.W.Frag) : Sp := fun vs H Q _ => ∃ (a : Addr) (ns : List Int), vs = [.ref a] ∧ SqL K H a (ns.map V.int) ∧ ns.length ≤ 63 ∧ Sys K H ∧ ∀ H', Q (.bl true) H'
theorem task_dt {H : Hp} {p la wa ba : Addr} {wxs bxs : List V} {D : Int} {ls : List Int} {W B : List (List (List Int))} (hp : SqT K H p [.str "task", .int D, .ref la, .ref wa, .ref ba]) (hla : SqT K H la (ls.map V.int)) (hwa : SqT K H wa wxs) (hwx : DtAll K H wxs (W.map fun rows => PyData.tuple (rows.map tupI))) (hba : SqT K H ba bxs) (hbx : DtAll K H bxs (B.map fun rows => PyData.tuple (rows.map tupI))) : Dt K H (.ref p) (taskD D ls W B) :=
  .tup hp (.cons (.str _) (.cons (.int _) (.cons (.tup hla (DtAll.ints ls)) (.cons (.tup hwa hwx) (.cons (.tup hba hbx) .nil)))))
set_option maxHeartbeats 2000000 in
theorem ok_all {C : Addr} {f : Addr} {fd : FuncData} (B : Blt mg) (g_law_draws : Has P w K mg base CX0 1 "_law_draws" ["script", "many"] (spDraws K)) (g_law_task : Has P w K mg base CX0 3 "_law_task" ["hand"] (spLTask K)) (g_law_every : Has P w K mg base CX0 8 "_law_every" ["task"] (spEvery K))
    (g_law_asked : HasG P w K mg base 8 "_law_asked" ["hand", "task"] (spAsked K)) (gturned : Has P w K mg base (L2.CX P w) 7 "turned" ["task"] (spTurned K C)) (g_law_any_row : Has P w K mg base CX0 2 "_law_any_row" ["hand", "task"] (spAnyRow K)) (g_law_refused : Has P w K mg base CX0 8 "_law_refused" ["task", "row"] (spRefusedT K))
    (F : Fun K "_law_all" "_law_all" s_law_all f fd) : FnG P w K mg base 9 f fd ["script"] (spLaw K) := by
  have sc : FnScope ["script", "hand", "task", "k", "other", "row"] ["script"] (defScope s_law_all) := ⟨rfl, rfl, rfl, by decide +kernel, rfl, by decide +kernel, by decide +kernel⟩
  refine FnG.by F sc (fun vs H Q E h => ?_) (fun cdv A outer s H vs Q E hg hr h => ?_)
  · obtain ⟨_, _, rfl, _⟩ := h
    rfl
  obtain ⟨a, ns, rfl, hS, h63, S0, k⟩ := h
  refine ⟨_, (pss_cons (ps_set (i := 1) sc.nd rfl (Or.inl rfl) (pe_lst (pa_cons (pc g_law_draws hr (pa_cons (pv 0) (pa_cons pe_int pa_nil))) (pa_cons pe_int pa_nil))))
    (pss_cons (ps_set (i := 2) sc.nd rfl (Or.inl rfl) (pc g_law_task hr (pa_cons (pv 1) pa_nil)))
    (pss_cons (ps_if (pt_not (pt_val (pc g_law_every hr (pa_cons (pv 2) pa_nil))))
      (pss_one (ps_ret pe_bl))
      pss_nil)
    (pss_cons (ps_for PassesOwn.never rfl (pi_range1 (by rfl) B.range (pa_cons pe_int pa_nil)) (pg_name (i := 3) sc.nd rfl (Or.inl rfl))
      (pss_one (ps_if (pt_not (pt_val (pcG g_law_asked hg hr (pa_cons (pv 1) (pa_cons (pv 2) pa_nil)))))
        (pss_one (ps_ret pe_bl))
        pss_nil)))
    (pss_cons (ps_set (i := 4) sc.nd rfl (Or.inl rfl) (pcX gturned hr (pa_cons (pv 2) pa_nil)))
    (pss_cons (ps_if (PW.pt (pw_or (pt_cmpR op_nes (pe_callB (call_repN hg hr.units) (by rfl) B.repr (by decide +kernel) (pa_cons (pv 4) pa_nil)) (pe_callB (call_repN hg hr.units) (by rfl) B.repr (by decide +kernel) (pa_cons (pe_tup (pa_cons pe_str (pa_cons (pe_ix ix_tup (pv 2) pe_int (fun _ _ => rfl)) (pa_cons (pe_ix ix_tup (pv 2) pe_int (fun _ _ => rfl)) (pa_cons (pe_ix ix_tup (pv 2) pe_int (fun _ _ => rfl)) (pa_cons (pe_ix ix_tup (pv 2) pe_int (fun _ _ => rfl)) pa_nil)))))) pa_nil)) (nomark _)) (pw_or1 (pt_cmpR op_nes (pe_callB (call_repN hg hr.units) (by rfl) B.repr (by decide +kernel) (pa_cons (pcX gturned hr (pa_cons (pv 4) pa_nil)) pa_nil)) (pe_callB (call_repN hg hr.units) (by rfl) B.repr (by decide +kernel) (pa_cons (pv 2) pa_nil)) (nomark _)))))
      (pss_one (ps_ret pe_bl))
      pss_nil)
    (pss_cons (ps_set (i := 5) sc.nd rfl (Or.inl rfl) (pc g_law_any_row hr (pa_cons (pv 1) (pa_cons (pv 2) pa_nil))))
    (pss_cons (ps_if (PW.pt (pw_or (pt_not (pt_val (pc g_law_refused hr (pa_cons (pe_callTy call_list_of (by rfl) B.list (by decide +kernel) (pa_cons (pv 2) pa_nil)) (pa_cons (pv 5) pa_nil))))) (pw_or1 (pt_not (pt_val (pc g_law_refused hr (pa_cons (pe_op op_plus (pv 2) (pe_tup (pa_cons (pe_tup pa_nil) pa_nil))) (pa_cons (pv 5) pa_nil))))))))
      (pss_one (ps_ret pe_bl))
      pss_nil)
    (pss_one (ps_ret (pe_and (pc g_law_refused hr (pa_cons (pe_op op_plus (pe_tup (pa_cons pe_str (pa_cons pe_bl pa_nil))) (pe_slice sl_cut (pv 2) (po_some pe_int) po_none)) (pa_cons (pv 5) pa_nil))) (pe_one (pe_cmpR op_eqs (pe_callB (call_repN hg hr.units) (by rfl) B.repr (by decide +kernel) (pa_cons (pcX gturned hr (pa_cons (pv 2) pa_nil)) pa_nil)) (pe_callB (call_repN hg hr.units) (by rfl) B.repr (by decide +kernel) (pa_cons (pv 4) pa_nil)) (nomark _)))))))))))))), ?_⟩
  refine ⟨_, rfl, a, ns, 220, rfl, hS, h63, by omega, fun d H1 ds hd0 s1 hd1 hdl hdb => ⟨(by show 2 ≤ sizeLine; decide), fun h hh0 => ?_⟩⟩
  have ndh : d ≠ h := ne_of_none hd1 hh0
  have hH1 : Hand (upd H1 h (.lst [.ref d, .int 0])) h d ds 0 := ⟨upd_same, by rw [upd_ne ndh]; exact hd1⟩
  have S1 := S0.same (s1.trans (same_new hh0 (.lst [.ref d, .int 0])))
  have nh : ¬ sysModules = h := S1.ne hH1.1
  refine ⟨_, rfl, h, d, ds, 0, rfl, hH1, fun ta H2 n2 D ls W Bl g2 hh2 D2 D4 lab gW gB T2 => ?_⟩
  have S2 := S1.go g2 nh
  have l24 : 2 ≤ ls.length ∧ ls.length ≤ 4 := by have := lab.1; omega
  have it := task_ok D2 D4 lab gW gB
  have it2 := task_ok D2 D4 lab gB gW
  have tS := task_sized (D := D) (by omega) (by omega) lab.2.1 l24.2 gW gB
  have tS2 := task_sized (D := D) (by omega) (by omega) lab.2.1 l24.2 gB gW
  have tb : (taskD D ls W Bl).bulk ≤ 1000000 := Nat.le_trans tS.2.2.2 (by decide)
  have tb2 : (taskD D ls Bl W).bulk ≤ 1000000 := Nat.le_trans tS2.2.2.2 (by decide)
  obtain ⟨z1, z2, z3⟩ := tS.rep (by decide) (by decide)
  obtain ⟨y1, y2, y3⟩ := tS2.rep (by decide) (by decide)
  refine ⟨_, rfl, _, D, ls, W, Bl, rfl, T2, gW, gB, l24.2, it, tb, fun H3 s3 => ⟨_, rfl, iteF ?_⟩⟩
  refine ⟨14, rfl, by decide, by decide, for_range (lo := 0) (n := (14 : Int).toNat) (fun i σ H4 => ∃ (n : Nat) (kv : Option V), σ = [some (.ref a), some (.ref h), some (.ref ta), kv, none, none] ∧ Hand H4 h d ds n ∧ Go (· = h) H2 H4)
    ⟨n2, none, rfl, hh2.same s3, s3.go⟩ ?_ ?_⟩
  · rintro i σ H4 hi ⟨n, kv, rfl, hh, g4⟩
    refine ⟨_, rfl, _, rfl, h, d, ds, n, _, D, ls, W, Bl, rfl, hh, S2.go g4 nh, T2.stay g4.tups, D2, D4, lab, gW, gB, fun H5 n5 g5 hh5 => ⟨true, rfl, iteF ?_⟩⟩
    exact ⟨_, _, rfl, hh5, g4.trans g5⟩
  rintro σ H4 ⟨n, kv, rfl, hh, g4⟩
  have T4 := T2.stay g4.tups
  have S4 := S2.go g4 nh
  obtain ⟨ta', la, wa, ba, wxs, bxs, et, hta, hla, hwa, hwx, hba, hbx⟩ := task_at T4
  cases et
  refine ⟨_, rfl, (fun _ => False), _, _, rfl, T4.dn, tb, task_word _ _ _ _, .inr ⟨it, ta, _, _, _, _, _, rfl, hta, fun p H5 s5 hp => ?_⟩⟩
  have O5 : Dt K H5 (.ref p) (taskD D ls Bl W) := task_dt hp (s5.seqT hla) (s5.seqT hba) (hbx.stay s5.tups) (s5.seqT hwa) (hwx.stay s5.tups)
  have S5 := S4.same s5
  have t5 := s5.seqT hta
  refine ⟨_, rfl, (fun _ => False), .ref p, taskD D ls Bl W, rfl, O5.dn, S5, y1, y2, y3, ?_⟩
  refine ⟨_, rfl, ta, _, _, _, rfl, rfl, t5, at_of (j := 1) rfl rfl, _, rfl, ta, _, _, _, rfl, rfl, t5, at_of (j := 2) rfl rfl, _, rfl, ta, _, _, _, rfl, rfl, t5, at_of (j := 4) rfl rfl, _, rfl, ta, _, _, _, rfl, rfl, t5, at_of (j := 3) rfl rfl, (by show 5 ≤ sizeLine; decide), fun p2 hp2 => ?_⟩
  have s6 := same_new hp2 (.tup [.str "task", .int D, .ref la, .ref ba, .ref wa])
  have s46 := s5.trans s6
  have O6 : Dt K (upd H5 p2 (.tup [.str "task", .int D, .ref la, .ref ba, .ref wa])) (.ref p2) (taskD D ls Bl W) := task_dt (SqT.of upd_same) (s46.seqT hla) (s46.seqT hba) (hbx.stay s46.tups) (s46.seqT hwa) (hwx.stay s46.tups)
  refine ⟨(fun _ => False), .ref p2, taskD D ls Bl W, rfl, O6.dn, S5.same s6, y1, y2, y3, ?_⟩
  refine ⟨_, _, rfl, rfl, _, rfl, ?_⟩
  rw [decide_eq_true rfl]
  refine iteF ?_
  refine ⟨_, rfl, (fun _ => False), .ref p, taskD D ls Bl W, rfl, (O5.stay s6.tups).dn, tb2, task_word _ _ _ _, .inr ⟨it2, p, _, _, _, _, _, rfl, s6.seqT hp, fun p3 H7 s7 hp3 => ?_⟩⟩
  have s47 := s46.trans s7
  have B7 : Dt K H7 (.ref p3) (taskD D ls W Bl) := task_dt hp3 (s47.seqT hla) (s47.seqT hwa) (hwx.stay s47.tups) (s47.seqT hba) (hbx.stay s47.tups)
  have S7 := S4.same s47
  refine ⟨(fun _ => False), .ref p3, taskD D ls W Bl, rfl, B7.dn, S7, z1, z2, z3, ?_⟩
  refine ⟨_, rfl, (fun _ => False), .ref ta, taskD D ls W Bl, rfl, (T4.stay s47.tups).dn, S7, z1, z2, z3, ?_⟩
  refine ⟨_, _, rfl, rfl, _, rfl, ?_⟩
  rw [decide_eq_true rfl]
  refine iteF ?_
  refine ⟨_, rfl, _, rfl, h, d, ds, _, _, D, ls, W, Bl, rfl, hh.same s47, T4.stay s47.tups, gW, gB, l24.2, lab.2.1, fun ra H8 n8 r g8 hh8 hra hrow => ?_⟩
  have T8 := (T4.stay s47.tups).stay g8.tups
  have R8 : Dt K H8 (.ref ra) (tupI r) := .tup hra (DtAll.ints r)
  have g48 := (Same.go (M := (· = h)) s47).trans g8
  have S8 := S4.go g48 nh
  have t8 := g48.seqT (K := K) hta
  have x8 : DtAll K H8 [.str "task", .int D, .ref la, .ref wa, .ref ba] [.str "task", .int D, tupI ls, sideD W, sideD Bl] := .cons (.str _) (.cons (.int _) (.cons (.tup (g48.seqT hla) (DtAll.ints ls)) (.cons (.tup (g48.seqT hwa) (hwx.stay g48.tups)) (.cons (.tup (g48.seqT hba) (hbx.stay g48.tups)) .nil))))
  obtain ⟨q1, q2, q3, q4, q5⟩ := task_parts_sized (D := D) (by omega) (by omega) lab.2.1 l24.2 gW gB
  refine ⟨_, rfl, ta, _, rfl, .inr t8, fun l hl => ?_⟩
  have s9 := same_new hl (.lst [.str "task", .int D, .ref la, .ref wa, .ref ba])
  refine ⟨_, rfl, (fun _ => False), .ref l, .ref ra, .list [.str "task", .int D, tupI ls, sideD W, sideD Bl], tupI r, rfl, .lst id upd_same (x8.stay s9.tups).dn, (R8.stay s9.tups).dn, not5 _, (by rw [bulk_lt]; exact tb), (fun w r e => by cases e), fun H10 s10 => ⟨_, rfl, ?_⟩⟩
  refine iteF ?_
  have s810 := s9.trans s10
  refine ⟨_, rfl, (by show 0 ≤ sizeLine; decide), fun u1 hu1 => ⟨(by show 1 ≤ sizeLine; decide), fun u2 hu2 => ?_⟩⟩
  have e1 := same_new hu1 (.tup [])
  have e2 := same_new hu2 (.tup [.ref u1])
  have s12 := (s810.trans e1).trans e2
  refine ⟨ta, u2, _, _, rfl, rfl, s12.seqT t8, SqT.of upd_same, (by show 6 ≤ sizeLine; decide), fun u3 H13 s13 hu3 => ?_⟩
  have s813 := s12.trans s13
  have x13 : DtAll K H13 ([.str "task", .int D, .ref la, .ref wa, .ref ba] ++ [.ref u1]) ([.str "task", .int D, tupI ls, sideD W, sideD Bl] ++ [.tuple []]) := (x8.stay s813.tups).app (.cons (.tup ((e2.trans s13).seqT (SqT.of upd_same)) .nil) .nil)
  have b6 : (PyData.tuple ([.str "task", .int D, tupI ls, sideD W, sideD Bl] ++ [.tuple []])).bulk ≤ 1000000 := by
    refine Nat.le_trans (sized_tup (m := 104) (h := 3) fun z hz => ?_).2.2.2 (by show 6 * 105 ≤ 1000000; decide)
    simp only [List.cons_append, List.nil_append, List.mem_cons, List.not_mem_nil, or_false] at hz
    rcases hz with rfl | rfl | rfl | rfl | rfl | rfl
    · exact q1
    · exact q2
    · exact q3
    · exact q4
    · exact q5
    · exact (sized_tup (m := 0) (h := 0) (ds := []) fun z hz => absurd hz List.not_mem_nil).more (by decide) (by decide)
  refine ⟨_, rfl, (fun _ => False), .ref u3, .ref ra, _, tupI r, rfl, (Dt.tup hu3 x13).dn, (R8.stay s813.tups).dn, not6 _ _ _ _ _ _, b6, (fun w r e _ => word_first e), fun H14 s14 => ⟨_, rfl, ?_⟩⟩
  refine iteF ?_
  have s814 := s813.trans s14
  refine ⟨(by show 2 ≤ sizeLine; decide), fun w1 hw1 => ?_⟩
  have e3 := same_new hw1 (.tup [.str "task", .bl true])
  refine ⟨_, rfl, _, rfl, ta, _, rfl, (s814.trans e3).seqT t8, fun w2 H15 s15 hw2 => ?_⟩
  rw [show (2 : Int) = ((2 : Nat) : Int) from rfl, cut_from] at hw2
  have s815 := (s814.trans e3).trans s15
  refine ⟨w1, w2, _, _, rfl, rfl, s15.seqT (SqT.of upd_same), hw2, (by show 5 ≤ sizeLine; decide), fun w3 H16 s16 hw3 => ?_⟩
  have s816 := s815.trans s16
  have x16 : DtAll K H16 ([.str "task", .bl true] ++ [.ref la, .ref wa, .ref ba]) ([.str "task", .bool true] ++ [tupI ls, sideD W, sideD Bl]) := .cons (.str _) (.cons (.bl _) ((x8.drop 2).stay s816.tups))
  have b7 : (PyData.tuple ([.str "task", .bool true] ++ [tupI ls, sideD W, sideD Bl])).bulk ≤ 1000000 := by
    refine Nat.le_trans (sized_tup (m := 104) (h := 3) fun z hz => ?_).2.2.2 (by show 5 * 105 ≤ 1000000; decide)
    simp only [List.cons_append, List.nil_append, List.mem_cons, List.not_mem_nil, or_false] at hz
    rcases hz with rfl | rfl | rfl | rfl | rfl
    · exact q1
    · exact (sized_bl _).more (by decide) (by decide)
    · exact q3
    · exact q4
    · exact q5
  refine ⟨_, rfl, (fun _ => False), .ref w3, .ref ra, _, tupI r, rfl, (Dt.tup hw3 x16).dn, (R8.stay s816.tups).dn, notB _ _ _ _, b7, (fun w r e _ => word_first e), fun H17 s17 => ?_⟩
  refine ⟨_, rfl, ?_⟩
  refine iteT ?_
  have s817 := s816.trans s17
  refine ⟨_, rfl, (fun _ => False), .ref ta, taskD D ls W Bl, rfl, (T8.stay s817.tups).dn, tb, task_word _ _ _ _, .inr ⟨it, ta, _, _, _, _, _, rfl, s817.seqT t8, fun p5 H18 s18 hp5 => ?_⟩⟩
  have s818 := s817.trans s18
  have g418 := g48.trans s818.go
  have O18 : Dt K H18 (.ref p5) (taskD D ls Bl W) := task_dt hp5 (g418.seqT hla) (g418.seqT hba) (hbx.stay g418.tups) (g418.seqT hwa) (hwx.stay g418.tups)
  have S18 := S4.go g418 nh
  refine ⟨(fun _ => False), .ref p5, taskD D ls Bl W, rfl, O18.dn, S18, y1, y2, y3, ?_⟩
  refine ⟨_, rfl, (fun _ => False), .ref p, taskD D ls Bl W, rfl, (((O5.stay (s6.trans s7).tups).stay g8.tups).stay s818.tups).dn, S18, y1, y2, y3, ?_⟩
  refine ⟨_, _, rfl, rfl, ?_⟩
  rw [decide_eq_true rfl]
  exact k H18
theorem ok_law {C : Addr} {f : Addr} {fd : FuncData} (B : Blt mg) (eLookError : Err K mg "LookError" C) (g_law_all : HasG P w K mg base 9 "_law_all" ["script"] (spLaw K)) (F : Fun K "law" "law" slaw f fd) : FnG P w K mg base 10 f fd ["script"] (spLaw K) := by
  have sc : FnScope ["script"] ["script"] (defScope slaw) := ⟨rfl, rfl, rfl, by decide +kernel, rfl, by decide +kernel, by decide +kernel⟩
  refine FnG.by F sc (fun vs H Q E h => ?_) (fun cdv A outer s H vs Q E hg hr h => ?_)
  · obtain ⟨_, _, rfl, _⟩ := h
    rfl
  obtain ⟨a, ns, rfl, hS, h63, S0, k⟩ := h
  refine ⟨_, (pss_one (ps_try_only rfl rfl ⟨rfl, by decide, .inl eLookError.g⟩ takes0 (fun W pn xe tk _ =>
      (pss_one (ps_ret (pcG g_law_all hg hr (pa_cons (pv 0) pa_nil)))))
      (fun _ _ _ _ _ _ _ => (pss_one (ps_ret pe_bl))))), ?_⟩
  exact ⟨_, rfl, a, ns, rfl, hS, h63, S0, fun H' => k H'⟩
end
/-! ### the top: the defs stand there as the text says -/
theorem def_mk {K : PySem.W.Frag} {h : Heap} {mg : Str → Option Value} {x : Str} {st : Stmt} {ps : List Str} {f : Addr} {od an : Option Addr} {sl : Array (Option Value)} {oc kV dc pm cd ct : Value} (X : K.In h) (G : h.Ns mainGlobals mg)
    (a : PySem.W.nsIn K mainGlobals x = some (some (.ref f))) (l : K.lookup f = some ⟨oc, od, .func (PySem.W.fnOf x x (defArgs st) (defBody st) (defScope st) .none kV dc pm an cd ct), sl⟩) (c : PySem.W.codeIn K cd x = true) (k : PySem.W.keepIn K (.ref f) = true)
    (b : ∀ (kV doc pm : Value) (an : Option Addr) (cdv ct : Value) (us : List Value), us.length = ps.length → bindArgs (PySem.W.fnOf x x (defArgs st) (defBody st) (defScope st) .none kV doc pm an cdv ct) ⟨us, []⟩ = pure (ps.zip us)) : Def K mg x st ps :=
  ⟨f, _, fun_mk l c k, PySem.W.mg_of X G a, (fun_mk l c k).binds b⟩
theorem all_mk {l : PySem.W.OpenLaw} {w : World} {K : PySem.W.Frag} {h : Heap} {mg : Str → Option Value} {fa f4 f5 f13 f14 f15 f16 f17 f18 f19 f20 f21 f22 f24 f25 f26 f27 f28 f29 f30 f31 f32 f33 f34 f35 f36 f37 f38 f39 f40 CBadTask CLookError CSIDES : Addr} (X : K.In h) (G : h.Ns mainGlobals mg) (hfa : mg "law" = some (.ref fa))
    {od4 an4 od5 an5 od13 an13 od14 an14 od15 an15 od16 an16 od17 an17 od18 an18 od19 an19 od20 an20 od21 an21 od22 an22 od24 an24 od25 an25 od26 an26 od27 an27 od28 an28 od29 an29 od30 an30 od31 an31 od32 an32 od33 an33 od34 an34 od35 an35 od36 an36 od37 an37 od38 an38 od39 an39 od40 an40 : Option Addr} {sl4 sl5 sl13 sl14 sl15 sl16 sl17 sl18 sl19 sl20 sl21 sl22 sl24 sl25 sl26 sl27 sl28 sl29 sl30 sl31 sl32 sl33 sl34 sl35 sl36 sl37 sl38 sl39 sl40 : Array (Option Value)} {oc4 kV4 dc4 pm4 cd4 ct4 oc5 kV5 dc5 pm5 cd5 ct5 oc13 kV13 dc13 pm13 cd13 ct13 oc14 kV14 dc14 pm14 cd14 ct14 oc15 kV15 dc15 pm15 cd15 ct15 oc16 kV16 dc16 pm16 cd16 ct16 oc17 kV17 dc17 pm17 cd17 ct17 oc18 kV18 dc18 pm18 cd18 ct18 oc19 kV19 dc19 pm19 cd19 ct19 oc20 kV20 dc20 pm20 cd20 ct20 oc21 kV21 dc21 pm21 cd21 ct21 oc22 kV22 dc22 pm22 cd22 ct22 oc24 kV24 dc24 pm24 cd24 ct24 oc25 kV25 dc25 pm25 cd25 ct25 oc26 kV26 dc26 pm26 cd26 ct26 oc27 kV27 dc27 pm27 cd27 ct27 oc28 kV28 dc28 pm28 cd28 ct28 oc29 kV29 dc29 pm29 cd29 ct29 oc30 kV30 dc30 pm30 cd30 ct30 oc31 kV31 dc31 pm31 cd31 ct31 oc32 kV32 dc32 pm32 cd32 ct32 oc33 kV33 dc33 pm33 cd33 ct33 oc34 kV34 dc34 pm34 cd34 ct34 oc35 kV35 dc35 pm35 cd35 ct35 oc36 kV36 dc36 pm36 cd36 ct36 oc37 kV37 dc37 pm37 cd37 ct37 oc38 kV38 dc38 pm38 cd38 ct38 oc39 kV39 dc39 pm39 cd39 ct39 oc40 kV40 dc40 pm40 cd40 ct40 : Value}
    (a4 : PySem.W.nsIn K mainGlobals "is_number" = some (some (.ref f4))) (l4 : K.lookup f4 = some ⟨oc4, od4, .func (PySem.W.fnOf "is_number" "is_number" (defArgs sis_number) (defBody sis_number) (defScope sis_number) .none kV4 dc4 pm4 an4 cd4 ct4), sl4⟩) (c4 : PySem.W.codeIn K cd4 "is_number" = true) (k4 : PySem.W.keepIn K (.ref f4) = true)
    (a5 : PySem.W.nsIn K mainGlobals "product_of" = some (some (.ref f5))) (l5 : K.lookup f5 = some ⟨oc5, od5, .func (PySem.W.fnOf "product_of" "product_of" (defArgs sproduct_of) (defBody sproduct_of) (defScope sproduct_of) .none kV5 dc5 pm5 an5 cd5 ct5), sl5⟩) (c5 : PySem.W.codeIn K cd5 "product_of" = true) (k5 : PySem.W.keepIn K (.ref f5) = true)
    (a13 : PySem.W.nsIn K mainGlobals "check_task" = some (some (.ref f13))) (l13 : K.lookup f13 = some ⟨oc13, od13, .func (PySem.W.fnOf "check_task" "check_task" (defArgs scheck_task) (defBody scheck_task) (defScope scheck_task) .none kV13 dc13 pm13 an13 cd13 ct13), sl13⟩) (c13 : PySem.W.codeIn K cd13 "check_task" = true) (k13 : PySem.W.keepIn K (.ref f13) = true)
    (a14 : PySem.W.nsIn K mainGlobals "turned" = some (some (.ref f14))) (l14 : K.lookup f14 = some ⟨oc14, od14, .func (PySem.W.fnOf "turned" "turned" (defArgs sturned) (defBody sturned) (defScope sturned) .none kV14 dc14 pm14 an14 cd14 ct14), sl14⟩) (c14 : PySem.W.codeIn K cd14 "turned" = true) (k14 : PySem.W.keepIn K (.ref f14) = true)
    (a15 : PySem.W.nsIn K mainGlobals "row_allowed" = some (some (.ref f15))) (l15 : K.lookup f15 = some ⟨oc15, od15, .func (PySem.W.fnOf "row_allowed" "row_allowed" (defArgs srow_allowed) (defBody srow_allowed) (defScope srow_allowed) .none kV15 dc15 pm15 an15 cd15 ct15), sl15⟩) (c15 : PySem.W.codeIn K cd15 "row_allowed" = true) (k15 : PySem.W.keepIn K (.ref f15) = true)
    (a16 : PySem.W.nsIn K mainGlobals "sides_exchanged" = some (some (.ref f16))) (l16 : K.lookup f16 = some ⟨oc16, od16, .func (PySem.W.fnOf "sides_exchanged" "sides_exchanged" (defArgs ssides_exchanged) (defBody ssides_exchanged) (defScope ssides_exchanged) .none kV16 dc16 pm16 an16 cd16 ct16), sl16⟩) (c16 : PySem.W.codeIn K cd16 "sides_exchanged" = true) (k16 : PySem.W.keepIn K (.ref f16) = true)
    (a17 : PySem.W.nsIn K mainGlobals "rows_of" = some (some (.ref f17))) (l17 : K.lookup f17 = some ⟨oc17, od17, .func (PySem.W.fnOf "rows_of" "rows_of" (defArgs srows_of) (defBody srows_of) (defScope srows_of) .none kV17 dc17 pm17 an17 cd17 ct17), sl17⟩) (c17 : PySem.W.codeIn K cd17 "rows_of" = true) (k17 : PySem.W.keepIn K (.ref f17) = true)
    (a18 : PySem.W.nsIn K mainGlobals "is_task" = some (some (.ref f18))) (l18 : K.lookup f18 = some ⟨oc18, od18, .func (PySem.W.fnOf "is_task" "is_task" (defArgs sis_task) (defBody sis_task) (defScope sis_task) .none kV18 dc18 pm18 an18 cd18 ct18), sl18⟩) (c18 : PySem.W.codeIn K cd18 "is_task" = true) (k18 : PySem.W.keepIn K (.ref f18) = true)
    (a19 : PySem.W.nsIn K mainGlobals "are_labels" = some (some (.ref f19))) (l19 : K.lookup f19 = some ⟨oc19, od19, .func (PySem.W.fnOf "are_labels" "are_labels" (defArgs sare_labels) (defBody sare_labels) (defScope sare_labels) .none kV19 dc19 pm19 an19 cd19 ct19), sl19⟩) (c19 : PySem.W.codeIn K cd19 "are_labels" = true) (k19 : PySem.W.keepIn K (.ref f19) = true)
    (a20 : PySem.W.nsIn K mainGlobals "_are_inputs" = some (some (.ref f20))) (l20 : K.lookup f20 = some ⟨oc20, od20, .func (PySem.W.fnOf "_are_inputs" "_are_inputs" (defArgs s_are_inputs) (defBody s_are_inputs) (defScope s_are_inputs) .none kV20 dc20 pm20 an20 cd20 ct20), sl20⟩) (c20 : PySem.W.codeIn K cd20 "_are_inputs" = true) (k20 : PySem.W.keepIn K (.ref f20) = true)
    (a21 : PySem.W.nsIn K mainGlobals "_are_rows" = some (some (.ref f21))) (l21 : K.lookup f21 = some ⟨oc21, od21, .func (PySem.W.fnOf "_are_rows" "_are_rows" (defArgs s_are_rows) (defBody s_are_rows) (defScope s_are_rows) .none kV21 dc21 pm21 an21 cd21 ct21), sl21⟩) (c21 : PySem.W.codeIn K cd21 "_are_rows" = true) (k21 : PySem.W.keepIn K (.ref f21) = true)
    (a22 : PySem.W.nsIn K mainGlobals "is_row" = some (some (.ref f22))) (l22 : K.lookup f22 = some ⟨oc22, od22, .func (PySem.W.fnOf "is_row" "is_row" (defArgs sis_row) (defBody sis_row) (defScope sis_row) .none kV22 dc22 pm22 an22 cd22 ct22), sl22⟩) (c22 : PySem.W.codeIn K cd22 "is_row" = true) (k22 : PySem.W.keepIn K (.ref f22) = true)
    (a24 : PySem.W.nsIn K mainGlobals "_law_draws" = some (some (.ref f24))) (l24 : K.lookup f24 = some ⟨oc24, od24, .func (PySem.W.fnOf "_law_draws" "_law_draws" (defArgs s_law_draws) (defBody s_law_draws) (defScope s_law_draws) .none kV24 dc24 pm24 an24 cd24 ct24), sl24⟩) (c24 : PySem.W.codeIn K cd24 "_law_draws" = true) (k24 : PySem.W.keepIn K (.ref f24) = true)
    (a25 : PySem.W.nsIn K mainGlobals "_law_take" = some (some (.ref f25))) (l25 : K.lookup f25 = some ⟨oc25, od25, .func (PySem.W.fnOf "_law_take" "_law_take" (defArgs s_law_take) (defBody s_law_take) (defScope s_law_take) .none kV25 dc25 pm25 an25 cd25 ct25), sl25⟩) (c25 : PySem.W.codeIn K cd25 "_law_take" = true) (k25 : PySem.W.keepIn K (.ref f25) = true)
    (a26 : PySem.W.nsIn K mainGlobals "_law_rows" = some (some (.ref f26))) (l26 : K.lookup f26 = some ⟨oc26, od26, .func (PySem.W.fnOf "_law_rows" "_law_rows" (defArgs s_law_rows) (defBody s_law_rows) (defScope s_law_rows) .none kV26 dc26 pm26 an26 cd26 ct26), sl26⟩) (c26 : PySem.W.codeIn K cd26 "_law_rows" = true) (k26 : PySem.W.keepIn K (.ref f26) = true)
    (a27 : PySem.W.nsIn K mainGlobals "_law_labels" = some (some (.ref f27))) (l27 : K.lookup f27 = some ⟨oc27, od27, .func (PySem.W.fnOf "_law_labels" "_law_labels" (defArgs s_law_labels) (defBody s_law_labels) (defScope s_law_labels) .none kV27 dc27 pm27 an27 cd27 ct27), sl27⟩) (c27 : PySem.W.codeIn K cd27 "_law_labels" = true) (k27 : PySem.W.keepIn K (.ref f27) = true)
    (a28 : PySem.W.nsIn K mainGlobals "_law_task" = some (some (.ref f28))) (l28 : K.lookup f28 = some ⟨oc28, od28, .func (PySem.W.fnOf "_law_task" "_law_task" (defArgs s_law_task) (defBody s_law_task) (defScope s_law_task) .none kV28 dc28 pm28 an28 cd28 ct28), sl28⟩) (c28 : PySem.W.codeIn K cd28 "_law_task" = true) (k28 : PySem.W.keepIn K (.ref f28) = true)
    (a29 : PySem.W.nsIn K mainGlobals "_law_integer" = some (some (.ref f29))) (l29 : K.lookup f29 = some ⟨oc29, od29, .func (PySem.W.fnOf "_law_integer" "_law_integer" (defArgs s_law_integer) (defBody s_law_integer) (defScope s_law_integer) .none kV29 dc29 pm29 an29 cd29 ct29), sl29⟩) (c29 : PySem.W.codeIn K cd29 "_law_integer" = true) (k29 : PySem.W.keepIn K (.ref f29) = true)
    (a30 : PySem.W.nsIn K mainGlobals "_law_any_row" = some (some (.ref f30))) (l30 : K.lookup f30 = some ⟨oc30, od30, .func (PySem.W.fnOf "_law_any_row" "_law_any_row" (defArgs s_law_any_row) (defBody s_law_any_row) (defScope s_law_any_row) .none kV30 dc30 pm30 an30 cd30 ct30), sl30⟩) (c30 : PySem.W.codeIn K cd30 "_law_any_row" = true) (k30 : PySem.W.keepIn K (.ref f30) = true)
    (a31 : PySem.W.nsIn K mainGlobals "_law_row_value" = some (some (.ref f31))) (l31 : K.lookup f31 = some ⟨oc31, od31, .func (PySem.W.fnOf "_law_row_value" "_law_row_value" (defArgs s_law_row_value) (defBody s_law_row_value) (defScope s_law_row_value) .none kV31 dc31 pm31 an31 cd31 ct31), sl31⟩) (c31 : PySem.W.codeIn K cd31 "_law_row_value" = true) (k31 : PySem.W.keepIn K (.ref f31) = true)
    (a32 : PySem.W.nsIn K mainGlobals "_law_number_value" = some (some (.ref f32))) (l32 : K.lookup f32 = some ⟨oc32, od32, .func (PySem.W.fnOf "_law_number_value" "_law_number_value" (defArgs s_law_number_value) (defBody s_law_number_value) (defScope s_law_number_value) .none kV32 dc32 pm32 an32 cd32 ct32), sl32⟩) (c32 : PySem.W.codeIn K cd32 "_law_number_value" = true) (k32 : PySem.W.keepIn K (.ref f32) = true)
    (a33 : PySem.W.nsIn K mainGlobals "_law_side_value" = some (some (.ref f33))) (l33 : K.lookup f33 = some ⟨oc33, od33, .func (PySem.W.fnOf "_law_side_value" "_law_side_value" (defArgs s_law_side_value) (defBody s_law_side_value) (defScope s_law_side_value) .none kV33 dc33 pm33 an33 cd33 ct33), sl33⟩) (c33 : PySem.W.codeIn K cd33 "_law_side_value" = true) (k33 : PySem.W.keepIn K (.ref f33) = true)
    (a34 : PySem.W.nsIn K mainGlobals "_law_plain" = some (some (.ref f34))) (l34 : K.lookup f34 = some ⟨oc34, od34, .func (PySem.W.fnOf "_law_plain" "_law_plain" (defArgs s_law_plain) (defBody s_law_plain) (defScope s_law_plain) .none kV34 dc34 pm34 an34 cd34 ct34), sl34⟩) (c34 : PySem.W.codeIn K cd34 "_law_plain" = true) (k34 : PySem.W.keepIn K (.ref f34) = true)
    (a35 : PySem.W.nsIn K mainGlobals "_law_due" = some (some (.ref f35))) (l35 : K.lookup f35 = some ⟨oc35, od35, .func (PySem.W.fnOf "_law_due" "_law_due" (defArgs s_law_due) (defBody s_law_due) (defScope s_law_due) .none kV35 dc35 pm35 an35 cd35 ct35), sl35⟩) (c35 : PySem.W.codeIn K cd35 "_law_due" = true) (k35 : PySem.W.keepIn K (.ref f35) = true)
    (a36 : PySem.W.nsIn K mainGlobals "_law_asked" = some (some (.ref f36))) (l36 : K.lookup f36 = some ⟨oc36, od36, .func (PySem.W.fnOf "_law_asked" "_law_asked" (defArgs s_law_asked) (defBody s_law_asked) (defScope s_law_asked) .none kV36 dc36 pm36 an36 cd36 ct36), sl36⟩) (c36 : PySem.W.codeIn K cd36 "_law_asked" = true) (k36 : PySem.W.keepIn K (.ref f36) = true)
    (a37 : PySem.W.nsIn K mainGlobals "_law_every" = some (some (.ref f37))) (l37 : K.lookup f37 = some ⟨oc37, od37, .func (PySem.W.fnOf "_law_every" "_law_every" (defArgs s_law_every) (defBody s_law_every) (defScope s_law_every) .none kV37 dc37 pm37 an37 cd37 ct37), sl37⟩) (c37 : PySem.W.codeIn K cd37 "_law_every" = true) (k37 : PySem.W.keepIn K (.ref f37) = true)
    (a38 : PySem.W.nsIn K mainGlobals "_law_refused" = some (some (.ref f38))) (l38 : K.lookup f38 = some ⟨oc38, od38, .func (PySem.W.fnOf "_law_refused" "_law_refused" (defArgs s_law_refused) (defBody s_law_refused) (defScope s_law_refused) .none kV38 dc38 pm38 an38 cd38 ct38), sl38⟩) (c38 : PySem.W.codeIn K cd38 "_law_refused" = true) (k38 : PySem.W.keepIn K (.ref f38) = true)
    (a39 : PySem.W.nsIn K mainGlobals "_law_all" = some (some (.ref f39))) (l39 : K.lookup f39 = some ⟨oc39, od39, .func (PySem.W.fnOf "_law_all" "_law_all" (defArgs s_law_all) (defBody s_law_all) (defScope s_law_all) .none kV39 dc39 pm39 an39 cd39 ct39), sl39⟩) (c39 : PySem.W.codeIn K cd39 "_law_all" = true) (k39 : PySem.W.keepIn K (.ref f39) = true)
    (a40 : PySem.W.nsIn K mainGlobals "law" = some (some (.ref f40))) (l40 : K.lookup f40 = some ⟨oc40, od40, .func (PySem.W.fnOf "law" "law" (defArgs slaw) (defBody slaw) (defScope slaw) .none kV40 dc40 pm40 an40 cd40 ct40), sl40⟩) (c40 : PySem.W.codeIn K cd40 "law" = true) (k40 : PySem.W.keepIn K (.ref f40) = true)
    (gBadTask : PySem.W.nsIn K mainGlobals "BadTask" = some (some (.ref CBadTask))) (xBadTask : PySem.W.excIn K CBadTask [.type "ValueError", .type "Exception", .type "BaseException", .type "object"] "ValueError.__new__" = true) (kBadTask : PySem.W.keepIn K (.ref CBadTask) = true) (bBadTask : PySem.W.subIn K (.ref CBadTask) (.type "BaseException") = some true) (tBadTask : PySem.W.typeIn K (.ref CBadTask) = some (.type "type")) (iBadTask : PySem.W.isClsIn K CBadTask = true)
    (gLookError : PySem.W.nsIn K mainGlobals "LookError" = some (some (.ref CLookError))) (xLookError : PySem.W.excIn K CLookError [.type "ValueError", .type "Exception", .type "BaseException", .type "object"] "ValueError.__new__" = true) (kLookError : PySem.W.keepIn K (.ref CLookError) = true) (bLookError : PySem.W.subIn K (.ref CLookError) (.type "BaseException") = some true) (tLookError : PySem.W.typeIn K (.ref CLookError) = some (.type "type")) (iLookError : PySem.W.isClsIn K CLookError = true)
    (sBadTaskBadTask : PySem.W.subIn K (.ref CBadTask) (.ref CBadTask) = some true)
    (gSIDES : PySem.W.nsIn K mainGlobals "SIDES" = some (some (.ref CSIDES)))
    (zS : SidesT K CSIDES)
    (zabs : PySem.W.nsIn K mainGlobals "abs" = some none)
    (zint : PySem.W.nsIn K mainGlobals "int" = some none)
    (zlen : PySem.W.nsIn K mainGlobals "len" = some none)
    (zrange : PySem.W.nsIn K mainGlobals "range" = some none)
    (ztuple : PySem.W.nsIn K mainGlobals "tuple" = some none)
    (zisinstance : PySem.W.nsIn K mainGlobals "isinstance" = some none)
    (zbool : PySem.W.nsIn K mainGlobals "bool" = some none)
    (zrepr : PySem.W.nsIn K mainGlobals "repr" = some none)
    (zlist : PySem.W.nsIn K mainGlobals "list" = some none)
    (zall : PySem.W.nsIn K mainGlobals "all" = some none)
    (zzip : PySem.W.nsIn K mainGlobals "zip" = some none)
    (zsorted : PySem.W.nsIn K mainGlobals "sorted" = some none)
    (zstr : PySem.W.nsIn K mainGlobals "str" = some none)
    {tkLEAST_COLOURS : Tok} (qLEAST_COLOURS : PySem.W.nsIn K mainGlobals "LEAST_COLOURS" = some (some (.int 2 tkLEAST_COLOURS)))
    {tkMOST_COLOURS : Tok} (qMOST_COLOURS : PySem.W.nsIn K mainGlobals "MOST_COLOURS" = some (some (.int 4 tkMOST_COLOURS)))
    {tkMOST_INPUTS : Tok} (qMOST_INPUTS : PySem.W.nsIn K mainGlobals "MOST_INPUTS" = some (some (.int 4 tkMOST_INPUTS)))
    {tkMOST_LABELS : Tok} (qMOST_LABELS : PySem.W.nsIn K mainGlobals "MOST_LABELS" = some (some (.int 60 tkMOST_LABELS)))
    {tkMOST_ROWS : Tok} (qMOST_ROWS : PySem.W.nsIn K mainGlobals "MOST_ROWS" = some (some (.int 4000 tkMOST_ROWS)))
    (zsys : K.lookup sysModules = none) :
    ∃ fd : FuncData, K.lookup sysModules = none ∧ (∀ (s : Shared) (v : Value), BindsTo s fd ⟨[v], []⟩ [("script", v)]) ∧ ∀ base : Heap, K.In base → base.Ns mainGlobals mg → FnG l.prog w K mg base 10 fa fd ["script"] (spLaw K) := by
  have e := hfa.symm.trans (PySem.W.mg_of X G a40)
  cases e
  have B : Blt mg := ⟨PySem.W.mg_none_of X G zabs, PySem.W.mg_none_of X G zint, PySem.W.mg_none_of X G zlen, PySem.W.mg_none_of X G zrange, PySem.W.mg_none_of X G ztuple, PySem.W.mg_none_of X G zisinstance, PySem.W.mg_none_of X G zbool, PySem.W.mg_none_of X G zrepr, PySem.W.mg_none_of X G zlist, PySem.W.mg_none_of X G zall, PySem.W.mg_none_of X G zzip, PySem.W.mg_none_of X G zsorted, PySem.W.mg_none_of X G zstr⟩
  have T : Cst mg := ⟨⟨_, PySem.W.mg_of X G qLEAST_COLOURS⟩, ⟨_, PySem.W.mg_of X G qMOST_COLOURS⟩, ⟨_, PySem.W.mg_of X G qMOST_INPUTS⟩, ⟨_, PySem.W.mg_of X G qMOST_LABELS⟩, ⟨_, PySem.W.mg_of X G qMOST_ROWS⟩⟩
  have eBadTask : Err K mg "BadTask" CBadTask := ⟨xBadTask, PySem.W.mg_of X G gBadTask, kBadTask, bBadTask, tBadTask⟩
  have eLookError : Err K mg "LookError" CLookError := ⟨xLookError, PySem.W.mg_of X G gLookError, kLookError, bLookError, tLookError⟩
  have hBadTaskBadTask := exm_of2 bBadTask iBadTask tBadTask sBadTaskBadTask
  have dis_number : Def K mg "is_number" sis_number ["value", "low", "high"] := def_mk X G a4 l4 c4 k4 fun _ _ _ _ _ _ us hl => match us, hl with | [_, _, _], _ => rfl
  have dproduct_of : Def K mg "product_of" sproduct_of ["numbers"] := def_mk X G a5 l5 c5 k5 fun _ _ _ _ _ _ us hl => match us, hl with | [_], _ => rfl
  have dcheck_task : Def K mg "check_task" scheck_task ["task"] := def_mk X G a13 l13 c13 k13 fun _ _ _ _ _ _ us hl => match us, hl with | [_], _ => rfl
  have dturned : Def K mg "turned" sturned ["task"] := def_mk X G a14 l14 c14 k14 fun _ _ _ _ _ _ us hl => match us, hl with | [_], _ => rfl
  have drow_allowed : Def K mg "row_allowed" srow_allowed ["task", "side", "number", "row"] := def_mk X G a15 l15 c15 k15 fun _ _ _ _ _ _ us hl => match us, hl with | [_, _, _, _], _ => rfl
  have dsides_exchanged : Def K mg "sides_exchanged" ssides_exchanged ["task"] := def_mk X G a16 l16 c16 k16 fun _ _ _ _ _ _ us hl => match us, hl with | [_], _ => rfl
  have drows_of : Def K mg "rows_of" srows_of ["task", "side"] := def_mk X G a17 l17 c17 k17 fun _ _ _ _ _ _ us hl => match us, hl with | [_, _], _ => rfl
  have dis_task : Def K mg "is_task" sis_task ["task"] := def_mk X G a18 l18 c18 k18 fun _ _ _ _ _ _ us hl => match us, hl with | [_], _ => rfl
  have dare_labels : Def K mg "are_labels" sare_labels ["D", "labels"] := def_mk X G a19 l19 c19 k19 fun _ _ _ _ _ _ us hl => match us, hl with | [_, _], _ => rfl
  have d_are_inputs : Def K mg "_are_inputs" s_are_inputs ["allowed", "labels"] := def_mk X G a20 l20 c20 k20 fun _ _ _ _ _ _ us hl => match us, hl with | [_, _], _ => rfl
  have d_are_rows : Def K mg "_are_rows" s_are_rows ["rows", "labels"] := def_mk X G a21 l21 c21 k21 fun _ _ _ _ _ _ us hl => match us, hl with | [_, _], _ => rfl
  have dis_row : Def K mg "is_row" sis_row ["row", "labels"] := def_mk X G a22 l22 c22 k22 fun _ _ _ _ _ _ us hl => match us, hl with | [_, _], _ => rfl
  have d_law_draws : Def K mg "_law_draws" s_law_draws ["script", "many"] := def_mk X G a24 l24 c24 k24 fun _ _ _ _ _ _ us hl => match us, hl with | [_, _], _ => rfl
  have d_law_take : Def K mg "_law_take" s_law_take ["hand", "many"] := def_mk X G a25 l25 c25 k25 fun _ _ _ _ _ _ us hl => match us, hl with | [_, _], _ => rfl
  have d_law_rows : Def K mg "_law_rows" s_law_rows ["hand", "labels"] := def_mk X G a26 l26 c26 k26 fun _ _ _ _ _ _ us hl => match us, hl with | [_, _], _ => rfl
  have d_law_labels : Def K mg "_law_labels" s_law_labels ["hand", "colours"] := def_mk X G a27 l27 c27 k27 fun _ _ _ _ _ _ us hl => match us, hl with | [_, _], _ => rfl
  have d_law_task : Def K mg "_law_task" s_law_task ["hand"] := def_mk X G a28 l28 c28 k28 fun _ _ _ _ _ _ us hl => match us, hl with | [_], _ => rfl
  have d_law_integer : Def K mg "_law_integer" s_law_integer ["value"] := def_mk X G a29 l29 c29 k29 fun _ _ _ _ _ _ us hl => match us, hl with | [_], _ => rfl
  have d_law_any_row : Def K mg "_law_any_row" s_law_any_row ["hand", "task"] := def_mk X G a30 l30 c30 k30 fun _ _ _ _ _ _ us hl => match us, hl with | [_, _], _ => rfl
  have d_law_row_value : Def K mg "_law_row_value" s_law_row_value ["hand", "task"] := def_mk X G a31 l31 c31 k31 fun _ _ _ _ _ _ us hl => match us, hl with | [_, _], _ => rfl
  have d_law_number_value : Def K mg "_law_number_value" s_law_number_value ["hand", "many"] := def_mk X G a32 l32 c32 k32 fun _ _ _ _ _ _ us hl => match us, hl with | [_, _], _ => rfl
  have d_law_side_value : Def K mg "_law_side_value" s_law_side_value ["hand"] := def_mk X G a33 l33 c33 k33 fun _ _ _ _ _ _ us hl => match us, hl with | [_], _ => rfl
  have d_law_plain : Def K mg "_law_plain" s_law_plain ["row", "labels"] := def_mk X G a34 l34 c34 k34 fun _ _ _ _ _ _ us hl => match us, hl with | [_, _], _ => rfl
  have d_law_due : Def K mg "_law_due" s_law_due ["task", "side", "number", "row"] := def_mk X G a35 l35 c35 k35 fun _ _ _ _ _ _ us hl => match us, hl with | [_, _, _, _], _ => rfl
  have d_law_asked : Def K mg "_law_asked" s_law_asked ["hand", "task"] := def_mk X G a36 l36 c36 k36 fun _ _ _ _ _ _ us hl => match us, hl with | [_, _], _ => rfl
  have d_law_every : Def K mg "_law_every" s_law_every ["task"] := def_mk X G a37 l37 c37 k37 fun _ _ _ _ _ _ us hl => match us, hl with | [_], _ => rfl
  have d_law_refused : Def K mg "_law_refused" s_law_refused ["task", "row"] := def_mk X G a38 l38 c38 k38 fun _ _ _ _ _ _ us hl => match us, hl with | [_, _], _ => rfl
  have d_law_all : Def K mg "_law_all" s_law_all ["script"] := def_mk X G a39 l39 c39 k39 fun _ _ _ _ _ _ us hl => match us, hl with | [_], _ => rfl
  refine ⟨PySem.W.fnOf "law" "law" (defArgs slaw) (defBody slaw) (defScope slaw) .none kV40 dc40 pm40 an40 cd40 ct40, zsys, fun s v => .of_eq rfl, fun base _ _ => ?_⟩
  have gtake : Has l.prog w K mg base CX0 1 "_law_take" ["hand", "many"] (spTake K) := d_law_take.has fun f fd F => ok_take B F
  have gdraws : Has l.prog w K mg base CX0 1 "_law_draws" ["script", "many"] (spDraws K) := d_law_draws.has fun f fd F => ok_draws B F
  have gnum : Has l.prog w K mg base CX0 1 "is_number" ["value", "low", "high"] (spNumber K) := dis_number.has fun f fd F => ok_number B F
  have grow : Has l.prog w K mg base CX0 2 "is_row" ["row", "labels"] (spRow K) := dis_row.has fun f fd F => ok_row B gnum F
  have grows : Has l.prog w K mg base CX0 3 "_are_rows" ["rows", "labels"] (spRows K) := d_are_rows.has fun f fd F => ok_rows B grow F
  have ginp : Has l.prog w K mg base CX0 4 "_are_inputs" ["allowed", "labels"] (spInputs K) := d_are_inputs.has fun f fd F => ok_inputs B T gnum grows F
  have gpr : Has l.prog w K mg base CX0 1 "product_of" ["numbers"] (spProduct K) := dproduct_of.has fun f fd F => ok_product F
  have glab : Has l.prog w K mg base CX0 2 "are_labels" ["D", "labels"] (spLabels K) := dare_labels.has fun f fd F => ok_labels B T gnum gpr F
  have gtb : Has l.prog w K mg base CX0 5 "is_task" ["task"] (spTaskB K) := dis_task.has fun f fd F => ok_taskb B glab ginp F
  have gct : Has l.prog w K mg base (L2.CX l.prog w) 6 "check_task" ["task"] (spCheckT K CBadTask) := dcheck_task.has fun f fd F => ok_checkt eBadTask gtb F
  have gex : Has l.prog w K mg base CX0 1 "sides_exchanged" ["task"] (spExch K) := dsides_exchanged.has fun f fd F => ok_exch F
  have gtu : Has l.prog w K mg base (L2.CX l.prog w) 7 "turned" ["task"] (spTurned K CBadTask) := dturned.has fun f fd F => ok_turned gex gct F
  have gro : Has l.prog w K mg base CX0 1 "rows_of" ["task", "side"] (spRowsOf K) := drows_of.has fun f fd F => ok_rowsof F
  have gal : Has l.prog w K mg base (L2.CX l.prog w) 7 "row_allowed" ["task", "side", "number", "row"] (spAllowed K CBadTask) := drow_allowed.has fun f fd F => ok_allowed B (PySem.W.mg_of X G gSIDES) zS gct gnum grow gro F
  have glr : Has l.prog w K mg base CX0 2 "_law_rows" ["hand", "labels"] (spLRows K) := d_law_rows.has fun f fd F => ok_lrows B gtake F
  have gll : Has l.prog w K mg base CX0 2 "_law_labels" ["hand", "colours"] (spLLabels K) := d_law_labels.has fun f fd F => ok_llabels B gtake F
  have glt : Has l.prog w K mg base CX0 3 "_law_task" ["hand"] (spLTask K) := d_law_task.has fun f fd F => ok_ltask B gtake gll glr F
  have gin : Has l.prog w K mg base CX0 1 "_law_integer" ["value"] (spInteger K) := d_law_integer.has fun f fd F => ok_integer B F
  have gpl : Has l.prog w K mg base CX0 2 "_law_plain" ["row", "labels"] (spPlain K) := d_law_plain.has fun f fd F => ok_plain B gin F
  have gdue : Has l.prog w K mg base CX0 3 "_law_due" ["task", "side", "number", "row"] (spDueL K) := d_law_due.has fun f fd F => ok_due B gin gpl F
  have gev : Has l.prog w K mg base CX0 8 "_law_every" ["task"] (spEvery K) := d_law_every.has fun f fd F => ok_every B gal F
  have grf : Has l.prog w K mg base CX0 8 "_law_refused" ["task", "row"] (spRefusedT K) := d_law_refused.has fun f fd F => ok_refusedt eBadTask hBadTaskBadTask gal gtu F
  have gar : Has l.prog w K mg base CX0 2 "_law_any_row" ["hand", "task"] (spAnyRow K) := d_law_any_row.has fun f fd F => ok_anyrow B gtake F
  have gnv : Has l.prog w K mg base CX0 2 "_law_number_value" ["hand", "many"] (spNumV K) := d_law_number_value.has fun f fd F => ok_numv B gtake F
  have gsv : Has l.prog w K mg base CX0 2 "_law_side_value" ["hand"] (spSideV K) := d_law_side_value.has fun f fd F => ok_sidev B gtake F
  have grv : Has l.prog w K mg base CX0 3 "_law_row_value" ["hand", "task"] (spRowV K) := d_law_row_value.has fun f fd F => ok_rowv B gtake gar F
  have gas : HasG l.prog w K mg base 8 "_law_asked" ["hand", "task"] (spAsked K) := d_law_asked.hasG fun f fd F => ok_asked B gsv gnv grv gdue gal F
  have gall : HasG l.prog w K mg base 9 "_law_all" ["script"] (spLaw K) := d_law_all.hasG fun f fd F => ok_all B gdraws glt gev gas gtu gar grf F
  exact ok_law B eLookError gall (fun_mk l40 c40 k40)
end Lw
open PySem PySem.W PyProof.Rows
set_option maxRecDepth 100000 in
set_option maxHeartbeats 0 in
theorem PySem.Challenge.cw_looksfar_k03_row_allowed_holds : PySem.Challenge.rw_looksfar_k03_row_allowed.Holds := by
  w_on; o_law; k_head; (case hw => w_witness2)
  k_fill
  refine LG.walk_S (l := PySem.Challenge.rw_looksfar_k03_row_allowed) (n := 63) (k := 10) (sp := Lw.spLaw) (x := "script") rfl (by decide) rfl ⟨rfl, by decide, by decide⟩ (by decide +kernel) (fun w h Y => PySem.W.kIn_of Y) ?F (fun K H a ns hl S hS => ⟨a, ns, rfl, hS, hl, S, fun _ => rfl⟩)
  case F =>
    intro w mg fa h KX G hmg
    refine' Lw.all_mk KX G hmg ?a4 ?l4 ?c4 ?k4 ?a5 ?l5 ?c5 ?k5 ?a13 ?l13 ?c13 ?k13 ?a14 ?l14 ?c14 ?k14 ?a15 ?l15 ?c15 ?k15 ?a16 ?l16 ?c16 ?k16 ?a17 ?l17 ?c17 ?k17 ?a18 ?l18 ?c18 ?k18 ?a19 ?l19 ?c19 ?k19 ?a20 ?l20 ?c20 ?k20 ?a21 ?l21 ?c21 ?k21 ?a22 ?l22 ?c22 ?k22 ?a24 ?l24 ?c24 ?k24 ?a25 ?l25 ?c25 ?k25 ?a26 ?l26 ?c26 ?k26 ?a27 ?l27 ?c27 ?k27 ?a28 ?l28 ?c28 ?k28 ?a29 ?l29 ?c29 ?k29 ?a30 ?l30 ?c30 ?k30 ?a31 ?l31 ?c31 ?k31 ?a32 ?l32 ?c32 ?k32 ?a33 ?l33 ?c33 ?k33 ?a34 ?l34 ?c34 ?k34 ?a35 ?l35 ?c35 ?k35 ?a36 ?l36 ?c36 ?k36 ?a37 ?l37 ?c37 ?k37 ?a38 ?l38 ?c38 ?k38 ?a39 ?l39 ?c39 ?k39 ?a40 ?l40 ?c40 ?k40 ?gBadTask ?xBadTask ?kBadTask ?bBadTask ?tBadTask ?iBadTask ?gLookError ?xLookError ?kLookError ?bLookError ?tLookError ?iLookError ?sBadTaskBadTask ?gSIDES ?zS ?zabs ?zint ?zlen ?zrange ?ztuple ?zisinstance ?zbool ?zrepr ?zlist ?zall ?zzip ?zsorted ?zstr ?qLEAST_COLOURS ?qMOST_COLOURS ?qMOST_INPUTS ?qMOST_LABELS ?qMOST_ROWS ?zsys
    (case a4 => k_is)
    (case l4 => k_is)
    (case c4 => k_is)
    (case k4 => k_is)
    (case a5 => k_is)
    (case l5 => k_is)
    (case c5 => k_is)
    (case k5 => k_is)
    (case a13 => k_is)
    (case l13 => k_is)
    (case c13 => k_is)
    (case k13 => k_is)
    (case a14 => k_is)
    (case l14 => k_is)
    (case c14 => k_is)
    (case k14 => k_is)
    (case a15 => k_is)
    (case l15 => k_is)
    (case c15 => k_is)
    (case k15 => k_is)
    (case a16 => k_is)
    (case l16 => k_is)
    (case c16 => k_is)
    (case k16 => k_is)
    (case a17 => k_is)
    (case l17 => k_is)
    (case c17 => k_is)
    (case k17 => k_is)
    (case a18 => k_is)
    (case l18 => k_is)
    (case c18 => k_is)
    (case k18 => k_is)
    (case a19 => k_is)
    (case l19 => k_is)
    (case c19 => k_is)
    (case k19 => k_is)
    (case a20 => k_is)
    (case l20 => k_is)
    (case c20 => k_is)
    (case k20 => k_is)
    (case a21 => k_is)
    (case l21 => k_is)
    (case c21 => k_is)
    (case k21 => k_is)
    (case a22 => k_is)
    (case l22 => k_is)
    (case c22 => k_is)
    (case k22 => k_is)
    (case a24 => k_is)
    (case l24 => k_is)
    (case c24 => k_is)
    (case k24 => k_is)
    (case a25 => k_is)
    (case l25 => k_is)
    (case c25 => k_is)
    (case k25 => k_is)
    (case a26 => k_is)
    (case l26 => k_is)
    (case c26 => k_is)
    (case k26 => k_is)
    (case a27 => k_is)
    (case l27 => k_is)
    (case c27 => k_is)
    (case k27 => k_is)
    (case a28 => k_is)
    (case l28 => k_is)
    (case c28 => k_is)
    (case k28 => k_is)
    (case a29 => k_is)
    (case l29 => k_is)
    (case c29 => k_is)
    (case k29 => k_is)
    (case a30 => k_is)
    (case l30 => k_is)
    (case c30 => k_is)
    (case k30 => k_is)
    (case a31 => k_is)
    (case l31 => k_is)
    (case c31 => k_is)
    (case k31 => k_is)
    (case a32 => k_is)
    (case l32 => k_is)
    (case c32 => k_is)
    (case k32 => k_is)
    (case a33 => k_is)
    (case l33 => k_is)
    (case c33 => k_is)
    (case k33 => k_is)
    (case a34 => k_is)
    (case l34 => k_is)
    (case c34 => k_is)
    (case k34 => k_is)
    (case a35 => k_is)
    (case l35 => k_is)
    (case c35 => k_is)
    (case k35 => k_is)
    (case a36 => k_is)
    (case l36 => k_is)
    (case c36 => k_is)
    (case k36 => k_is)
    (case a37 => k_is)
    (case l37 => k_is)
    (case c37 => k_is)
    (case k37 => k_is)
    (case a38 => k_is)
    (case l38 => k_is)
    (case c38 => k_is)
    (case k38 => k_is)
    (case a39 => k_is)
    (case l39 => k_is)
    (case c39 => k_is)
    (case k39 => k_is)
    (case a40 => k_is)
    (case l40 => k_is)
    (case c40 => k_is)
    (case k40 => k_is)
    (case gBadTask => k_is)
    (case xBadTask => k_exc)
    (case kBadTask => k_is)
    (case bBadTask => k_is)
    (case tBadTask => k_is)
    (case iBadTask => k_is)
    (case gLookError => k_is)
    (case xLookError => k_exc)
    (case kLookError => k_is)
    (case bLookError => k_is)
    (case tLookError => k_is)
    (case iLookError => k_is)
    (case sBadTaskBadTask => first | rfl | k_is)
    (case gSIDES => k_is)
    (case zS => exact ⟨_, _, _, rfl, rfl, rfl, (by show 2 ≤ sizeLine; decide), .cons ⟨_, rfl⟩ (.cons ⟨_, rfl⟩ .nil)⟩)
    (case zabs => k_is)
    (case zint => k_is)
    (case zlen => k_is)
    (case zrange => k_is)
    (case ztuple => k_is)
    (case zisinstance => k_is)
    (case zbool => k_is)
    (case zrepr => k_is)
    (case zlist => k_is)
    (case zall => k_is)
    (case zzip => k_is)
    (case zsorted => k_is)
    (case zstr => k_is)
    (case qLEAST_COLOURS => k_is)
    (case qMOST_COLOURS => k_is)
    (case qMOST_INPUTS => k_is)
    (case qMOST_LABELS => k_is)
    (case qMOST_ROWS => k_is)
    (case zsys => rfl)
