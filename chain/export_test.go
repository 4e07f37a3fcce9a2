package chain

// Without two texts of one SHA-256, only links that are weaker have lists that clash: so the tests get at what is inside.
var (
	ClashBy = clash
	Linked  = linked
)

// Linker is linker, for the tests.
type Linker = linker
