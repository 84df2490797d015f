import Derived.Test.YtdpfdkihbgmapaaGreatImK
namespace Go.Proofs.YtdpfdkihbgmapaaGreat
open Go.RowKit
set_option linter.unusedVariables false
set_option maxHeartbeats 16000000
def relsOk (N:Nt):Bool:=allN N.rels.length (λi=>relGood N (rat N.rels i))
def turnGood (N:Nt)(t:Tn):Bool:=hasW N.ways t.frm&&(hasW N.ways t.to&&inB t.cost)
def turnsOk (N:Nt):Bool:=allN N.turns.length (λi=>turnGood N (tat N.turns i))
def implValid (N:Nt):Bool:=counts N&&(inB N.uturn&&((ascI N.nodes&&allIn N.nodes)&&((waysOk N&&ascW N.ways)&&((relsOk N&&ascR N.rels)&&(turnsOk N&&ascT N.turns)))))
end Go.Proofs.YtdpfdkihbgmapaaGreat
