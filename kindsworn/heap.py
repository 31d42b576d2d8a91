"""Heaps: the objects in them, and the headers of these."""

A_TUPLE = 0
A_RECORD = 1
A_MAKE = 2
A_CELL = 3
A_CLOSURE = 4
MOST_FIELDS = 255


def header_of(sort, extra, many):
    """The HEADER of an object of a sort with an extra and so many fields."""
    return 2 * (5 * (256 * extra + many) + sort) + 1


def read_header(word):
    """The tuple (sort, extra, number of fields) that a HEADER tells."""
    told = word // 2
    return (told % 5, told // 5 // 256, told // 5 % 256)


def size_at(heap, address):
    """How many words the object at an address has, its header one of them."""
    return read_header(heap[address])[2] + 1


def object_at(heap, address):
    """The tuple (sort, extra, fields) of the object at an address."""
    sort, extra, many = read_header(heap[address])
    return (sort, extra, tuple(heap[address + 1:address + 1 + many]))


def object_words(sort, extra, fields):
    """The words of an object."""
    return (header_of(sort, extra, len(fields)),) + tuple(fields)


def with_object(heap, address, sort, extra, fields):
    """The heap in which an object stands at an address."""
    words = object_words(sort, extra, fields)
    return heap[:address] + words + heap[address + len(words):]
